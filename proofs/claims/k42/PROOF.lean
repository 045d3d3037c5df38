import PyProof.Rows.All
import Wide.All
import OpenK.AllK
import Wide.FinOn
import Lean
import PyProof.EqAt
import PyProof.EqKinds
import PyProof.TupleCall
import PyProof.ExcInit
import PyProof.ExcClass3
import OpenK.KOwn
import PyProof.ExcAttrAll.ValueError
import OpenK.KDescr
import KE.KIsNot
import PyProof.NeKinds
import PyProof.Draws
import PyProof.EnumMake
import PyProof.ZipIter
import KE.KListMore
import PyProof.Rows.FStr
import PyProof.FString
import PyProof.Rows.CallKw2
import PyProof.StrLawsTight
import PyProof.CompUse
import PyProof.CompFree
import PyProof.RaisesMany
import PyProof.NsDelKeeps
import PyProof.RulesAs
import PyProof.MaxThree
import PyProof.Rows.SumAny
import PyProof.Rows.StrJoin2
import KE.KRevIter
import PyProof.AutoRange
import PyProof.FactsAll.range_2
import PyProof.Rows.FactsT2
import PyProof.Rows.SortShell
import PyProof.Rows.SortWalk
import PyProof.DictIter
import PyProof.DictWalks
import KE.KDictLaws
import KE.KDictOf
import PyProof.AttrMissSeq
import KE.KIntText
import PyProof.Rows.SetFrom
import PyProof.Rows.SortRuns
import PyProof.Rows.SortStr
import KE.KSortTup
import PySem.Challenge.RW_inningsbook_k42_extras
set_option bootstrap.genMatcherCode false
set_option compiler.extract_closed false
set_option genSizeOf false
set_option Elab.async false
set_option linter.all false
set_option maxRecDepth 100000
set_option maxHeartbeats 4000000
set_option genInjectivity false
noncomputable section
open PySem renaming wpAny_bind->zaa,wpAny_pure->zac,wpAny_field->zay,wpAny_holding->zaz,wpAny_newObj_type->zaB,wpAny_call_entry->zaF,wpAny_callSpecial?_slot->zaH,wpAny_mono->zaO,boot_len->zaS,mem_of_lookup->zbf,wpAny_truthy_bool->zbh,sizeLine_eq->zbk,wpAny_seqItems->zbq,wpAny_setField->zbr,wpAny_setField_rec->zbL,codeAny_builtin->zbO,wpAny_pyIter_list->zbS,wpAny_loadPart_at->zbT,wpAny_typeNameOfWhole_keyiter->zbV,codeAny_mono->zcp,plainObj_wpAny_Assign_Attribute->zcv,wpAny_standAt->zcx,wpAny_attempt->zcz,wpAny_rule->zcA,wpAny_Call_Name_kw->zcB,tupleKind_room_in1->zcD,wpAny_typeOf->zcK,wpAny_isInstance->zcP,wpAny_askSetting->zcR,plainId_quiet->zcU,wpAny_isSubtype_exc->zcZ,wpAny_execs_nil->zda,wpAny_passesOwn->zdb,wpAny_call->zdj,call_meets->zdk,wpAny_setState_of->zdo,wpAny_of_eq->zdp,wpAny_onRaise->zdr,wpAny_specialOf->zdy,codeAny_call_builtin->zdB,wpAny_updateSeq_pair->zdC,wpAny_setEntries_of->zdH,isSubtype_stop->zdM,wpAny_fieldsOf->zdN,wpAny_pyIter_slot->zeb,wpAny_dictEntries->zec,intKind_is->zei,wpAny_execs_cons->zel,wpAny_lookBehind->zem,pastItsLine_dict->zen,wpAny_updateSeq->zeE,codeAny_of_tree->zeG,wpAny_dictEpoch->zeH,wpAny_letGo->zeP,wpAny_loadPart->zeU,wpAny_listPart->zeV,isSubtype_type->zeZ
open PySem.Heap renaming get?_push_of_some->zab,lt_size->zaj,get?_push_size->zak,get?_update_self->zaA,get?_update_other->zaE,size_push->zbp,get?_push_ne->zdZ,size_update->zet
open List renaming length_map->zad,getElem?_eq_some_iff->zae,getElem?_eq_getElem->zag,getElem?_append_left->zal,mem_cons->zam,length_append->zan,size_toArray->zaq,getElem?_map->zar,length_cons->zas,map_cons->zat,getElem?_append_right->zau,not_mem_nil->zav,append_nil->zax,replicate_succ->zaD,map_append->zaG,map_map->zaI,mem_cons_of_mem->zaJ,getElem?_set_ne->zaK,getElem?_cons_succ->zaL,getElem?_set_self->zaM,mem_singleton->zaN,mem_append_right->zaP,all_eq_true->zaQ,foldl_cons->zaT,length_take->zaU,lookup_cons->zaV,getElem?_cons_zero->zaX,mem_of_getElem?->zaZ,mem_map->zba,take_of_length_le->zbd,all_cons->zbi,length_singleton->zbj,length_nil->zbm,mem_append->zbt,mem_flatMap->zby,nodup_cons->zbE,map_congr_left->zbF,all_nil->zbG,filter_cons->zbH,mem_cons_self->zbI,contains_cons->zbK,getElem?_take_of_lt->zbN,filter_eq_self->zbX,cons_append->zbY,take_length->zbZ,map_nil->zcc,eq_nil_or_concat->zci,flatten_cons->zcl,nodup_append->zcm,mem_append_left->zcn,any_eq_true->zcs,replicate_zero->zcu,any_cons->zcy,find?_cons->zcC,zip_cons_cons->zcG,append_assoc->zcI,foldl_append->zcJ,set_append_right->zcM,getElem_mem->zcQ,reverse_reverse->zcS,getD_eq_getElem?_getD->zcV,filterMap_cons->zcW,drop_eq_getElem_cons->zdc,any_map->zdh,getElem?_replicate->zdm,set_comm->zdq,length_filter_le->zdv,nil_append->zdA,pairwise_append->zdE,length_pos_iff->zdI,set_cons_succ->zdV,pairwise_map->zed,flatMap_cons->zee,reverse_cons->zeg,pairwise_iff_getElem->zej,length_drop->zeq,set_set->zeu,eraseIdx_cons_succ->zex,length_eq_zero_iff->zez,mem_filter->zeA,of_mem_zip->zeC,length_set->zeJ,drop_eq_nil_of_le->zeQ,mem_range->zeR,take_succ->zfc,mem_iff_getElem->zfe,sum_cons->zfm,any_nil->zfz
open Nat renaming le_refl->zaf,le_trans->zah,ne_of_lt->zao,lt_of_lt_of_le->zap,lt_irrefl->zaY,lt_succ_self->zbb,le_succ->zbc,ne_of_gt->zbv,le_add_right->zbw,lt_succ_of_lt->zbD,zero_le->zbM,zero_add->zde,lt_of_le_of_lt->zdi,le_of_lt->zdw,lt_trans->zeo,sub_self->zfA
open Bool renaming false_ne_true->zai,false_eq_true->zaC,eq_iff_iff->zbu,and_self->zbz,and_eq_true_iff->zbC,and_eq_true->zcO,or_true->zdf,true_and->zds,false_and->zdJ,or_eq_true->zeF,or_false->zfi
open Option.some renaming inj->zaw,injEq->zbU
open PyProof.Rows renaming boot_list->zaR,boot_tuple->zbW,boot_int->zcg,slot_tuple_getitem->zcw,callWith_type1->zcN,assignInOrder_cons->zdP,boot_sum->zfa,boot_str->zfb
open Array renaming length_toList->zaW,getElem?_eq_none->zcb,getElem?_toList->zce,getElem?_eq_getElem->zco,getElem?_eq_some_iff->zcT
open Ne renaming symm->zbe
open PySem.Heap.SameBut renaming update->zbg,refl->zfO
open PySem.W renaming kia_one->zbl,looks_clsIn->zcX,callWith_K->zdd,methodCall_KW->zdt,looks_findIn->zdx,plainGet_of->zdG,cellsFrom_some->zeL,tail_of_in->zfw,set_plain->zfD,kitx_list->zfF,kitx_dict->zfG
open Int renaming eq_ofNat_of_zero_le->zbn,toNat_natCast->zbs,natCast_add->zbR,emod_lt_of_pos->zcd,natCast_one->zcj,emod_nonneg->zcF,toNat_of_nonneg->zcY
open PySem.F renaming plainAttrs_list->zbo,slot_dict_keyiterator_next->zbA,slot_list_append->zbP,type_list_append->zbQ,slot_tuple_iterator_next->zck,called_set->zct,slot_zip_next->zcE,slot_list_getattribute->zdg,slot_dict_get->zdu,args_dict_keyiterator_next_1->zdD,entry_dict_keyiterator_next->zdF,args_tuple_iterator_next_1->zdL,entry_tuple_iterator_next->zdU,args_zip_next_1->zea,args_tuple_add_2->zep,entry_zip_next->zes,args_dict_get_3->zev,entry_tuple_add->zew,entry_dict_get->zeM,slot_tuple_add->zeN
open PySem.Obj renaming data_mapFields->zbx,isFreed_of_fields->zcL
open PySem.Around renaming under_plainId->zbB
open PySem.W.Looks renaming here->zbJ
open Option renaming map_eq_some_iff->zca,map_some->zcf,isSome_iff_exists->zcq,bind_some->zcr,isNone_none->zdR,isSome_map->zdY,isNone_iff_eq_none->zeh,getD_none->zer,isSome_some->zfu
open PySem.PassesOwn renaming never->zch
open PySem.Calls renaming callWith_builtin->zcH,evalArgs_plain->zdz,spliced_cons->zdQ,Name_function_global->zdW,call_function_entry->zek
open Eq renaming symm->zdl
open PyProof.Rows.F renaming plain_set_update_loop->zdn,entry_set_update_loop->zey
open Prod renaming ext->zdK
open Sum.inr renaming inj->zdO
open PySem.W.KFB renaming if_not->zdS
open PySem.SeqAt.EqAt renaming same->zeD,int_str->zfq,str_int->zfr,of_refs->zfy
namespace L2
open PySem PySem.Spec PyProof.Rows
theorem _root_.jp{p q:Prop}(a:p)(b:q):p∧q:=⟨a,b⟩
noncomputable abbrev dF:=Sum Int Str
noncomputable def mK:dF->Value->Bool
 |.inl k,v=>Value.isInt k v
 |.inr x,v=>Value.isStrOf x v
noncomputable def al6 (w:World):dF->Int
 |.inl k=>hashInt k
 |.inr x=>hashStr w x
theorem cZ:∀{k:dF} {v:Value},mK k v=true->(∃i t,k=Sum.inl i/\v=Value.int i t)\/(∃x t,k=Sum.inr x/\v=Value.str x t)
 |.inl i,v,h=>by
  obtain⟨t,e⟩:=Value.isInt_shape (k:=i) (v:=v) h
  exact .inl ⟨i,t,rfl,e⟩
 |.inr x,v,h=>by
  obtain⟨t,e⟩:=Value.isStrOf_shape (x:=x) (v:=v) h
  exact .inr ⟨x,t,rfl,e⟩
theorem Jx (i:Int)(t:Tok):mK (.inl i) (.int i t)=true:=by simp[mK,Value.isInt]
theorem Jy (x:Str)(t:Tok):mK (.inr x) (.str x t)=true:=by simp[mK,Value.isStrOf]
theorem aae (a b:Int):decide ((Sum.inl a:dF)=Sum.inl b)=(a == b):=by
 by_cases e:a=b
 ·subst e;simp
 ·have h:¬ (Sum.inl a:dF)=Sum.inl b:=λq=>e (Sum.inl.inj q)
  rw[decide_eq_false h];exact (beq_eq_false_iff_ne.mpr e).symm
theorem aaf (a b:Str):decide ((Sum.inr a:dF)=Sum.inr b)=decide (a=b):=by
 by_cases e:a=b
 ·subst e;simp
 ·have h:¬ (Sum.inr a:dF)=Sum.inr b:=λq=>e (zdO q)
  rw[decide_eq_false h,decide_eq_false e]
theorem aag (a:Int)(b:Str):decide ((Sum.inl a:dF)=Sum.inr b)=false:=decide_eq_false (λq=>nomatch q)
theorem aah (a:Str)(b:Int):decide ((Sum.inr a:dF)=Sum.inl b)=false:=decide_eq_false (λq=>nomatch q)
def bS (prog:Program)(w:World):PySem.KeyKind prog w dF where
 is:=mK
 hash:=al6 w
 inj:=λv a b ha hb=>by
  rcases cZ ha with⟨i,t,rfl,rfl⟩|⟨x,t,rfl,rfl⟩
  ·rcases cZ hb with⟨j,u,rfl,e⟩|⟨y,u,rfl,e⟩
   ·injection e with e1 _;rw[e1]
   ·exact nomatch e
  ·rcases cZ hb with⟨j,u,rfl,e⟩|⟨y,u,rfl,e⟩
   ·exact nomatch e
   ·injection e with e1 _;rw[e1]
 byValue:=λk v h=>by
  rcases cZ h with⟨i,t,rfl,rfl⟩|⟨x,t,rfl,rfl⟩<;>rfl
 pyHash:=λhv h=>by
  rcases cZ hv with⟨i,t,rfl,rfl⟩|⟨x,t,rfl,rfl⟩
  ·exact wpAny_pyHash_int h
  ·exact wpAny_pyHash_str h
 eqBool:=λhu hv h=>by
  rcases cZ hu with⟨i,t,rfl,rfl⟩|⟨x,t,rfl,rfl⟩
  ·rcases cZ hv with⟨j,u,rfl,rfl⟩|⟨y,u,rfl,rfl⟩
   ·rw[aae] at h;exact wpAny_eqBool_int h
   ·rw[aag] at h;exact zfq i t y u _ _ _ _ h
  ·rcases cZ hv with⟨j,u,rfl,rfl⟩|⟨y,u,rfl,rfl⟩
   ·rw[aah] at h;exact zfr x t j u _ _ _ _ h
   ·rw[aaf] at h;exact wpAny_eqBool_str h
 «strs»:= λk x t v h=>by
  rcases cZ h with⟨i,u,rfl,e⟩|⟨y,u,rfl,e⟩
  ·exact nomatch e
  ·injection e with e1 _
   subst e1;cases v<;>rfl
theorem BJ (prog:Program)(w:World)(i:Int)(t:Tok):(bS prog w).is (.inl i) (.int i t)=true:=Jx i t
theorem BK (prog:Program)(w:World)(x:Str)(t:Tok):(bS prog w).is (.inr x) (.str x t)=true:=Jy x t
set_option genInjectivity true in
inductive V where
 |bq|bl (b:Bool)|int (i:Int)|str (x:Str)|LD (b:Array UInt8)|flt (b:UInt64)|ref (a:Addr)|ty (n:String)
 deriving DecidableEq
noncomputable def bI:V->Value->Prop
 |.bq,u=>u=Value.none
 |.bl b,u=>u=Value.bool b
 |.int i,u=>∃t,u=Value.int i t
 |.str x,u=>∃t,u=Value.str x t
 |.LD b,u=>∃t,u=Value.bytes b t
 |.flt b,u=>∃t,u=Value.float b t
 |.ref a,u=>u=Value.ref a
 |.ty n,u=>u=Value.type n
noncomputable abbrev bE:List V->List Value->Prop:=Paired bI
theorem bE.length (r:bE xs us):xs.length=us.length:=Paired.length r
theorem bE.get:∀{xs:List V} {us:List Value} {i:Nat} {x:V},bE xs us->xs[i]? = some x->∃u,us[i]? = some u/\bI x u
 |_,_,_,_,.nil,e=>by simp at e
 |_,_,0,_,.cons r _,e=>by simp at e;subst e;exact⟨_,rfl,r⟩
 |_,_,i+1,x,.cons _ t,e=>by
  obtain⟨u,h1,h2⟩:=bE.get (i:=i) (x:=x) t (by simpa using e)
  exact⟨u,by simpa using h1,h2⟩
theorem bE.je:∀{xs ys:List V} {us ws:List Value},bE xs us->bE ys ws->bE (xs++ys) (us++ws)
 |_,_,_,_,.nil,s=>s
 |_,_,_,_,.cons r t,s=>.cons r (bE.je t s)
theorem bE.take:∀{xs:List V} {us:List Value} (n:Nat),bE xs us->bE (xs.take n) (us.take n)
 |_,_,0,_=>.nil
 |_,_,_+1,.nil=>.nil
 |_,_,n+1,.cons r t=>.cons r (bE.take n t)
theorem bE.drop:∀{xs:List V} {us:List Value} (n:Nat),bE xs us->bE (xs.drop n) (us.drop n)
 |_,_,0,r=>r
 |_,_,_+1,.nil=>.nil
 |_,_,n+1,.cons _ t=>bE.drop n t
noncomputable def jf:Option V->Option Value->Prop
 |some v,some u=>bI v u
 |none,none=>True
 |_,_=>False
noncomputable def KV {κ:Type}:List (κ × V)->List (κ × Value)->Prop:=Paired λ(p:κ × V) (q:κ × Value)=>p.1=q.1/\bI p.2 q.2
noncomputable def kV:dF->V
 |.inl i=>.int i
 |.inr x=>.str x
inductive HO where
 /-- a list -/
 |bD (xs:List V)
 /-- a fY (never ak9) -/
 |gn (xs:List V)
 /-- a dict agE sA are ints and agF;R8 agE sA are tuples of ints and agF (yc empty R8 is aqY) -/
 |dK (aI:List (dF×V))|dT (aI:List (List dF×V))
 /-- a set of ints:aJ ala,aJ size -/
 |set (S:Int->Bool) (n:Nat)
 /-- an instance of yc class at C,aJ dict at dx,aJ aaj -/
 |fH (C dx:Addr) (fs:List (Str×V))
 /-- yc dict of yc instance at x -/
 |tF (x:Addr)
 /-- yc dict of an agb -/
 |xd (fs:List (Str×V))
 /-- a apc al7,f of x -/
 |lY (f x:Addr)
 /-- a range LX lo,lo+1,.. below hi -/
 |rng (lo hi:Int)
 /-- a agG aqZ is apd to yc LX (yc LY;a dict while a R9 ape it):aq0,never alb while it is so -/
 |qH (o:Obj) (u:HO)
 /-- a aq1 agH table -/
 |tbl (ps:Array Value)
 /-- any GZ agG,by al9 is true of aJ R8 LX (a def of apf tF:aq2 a S n:=HO.ext fun h=>..) -/
 |ext (φ:Heap->Prop)
noncomputable abbrev Hp:=Addr->Option HO
noncomputable def bf (H:Hp)(a:Addr)(o:HO):Hp:=λb=>if b=a then some o else H b
theorem aq:bf H a o a=some o:=by unfold bf;rw[if_pos rfl]
theorem av (h:b≠a):bf H a o b=H b:=by unfold bf;rw[if_neg h]
theorem G0:bf (bf H a o) a u=bf H a u:=by
 funext b;unfold bf;split<;>rfl
theorem agI {H:Hp}{a b:Addr}{o u:HO}(h:H a=some o)(h':H b=some u)(d:o≠u):a≠b:=by
 intro e;subst e;rw[h] at h';exact d (zaw h')
theorem fK {H:Hp}{a b:Addr}{o:HO}(h:H a=some o)(h':H b=none):a≠b:=by
 intro e;subst e;rw[h] at h';cases h'
section
variable (P:Program)(w:World)
noncomputable def bP (H:Hp)(h:Heap)(a:Addr):HO->Prop
 |.bD xs=>xs.length<=sizeLine/\∃(aJ:List Value) (n:Nat),bE xs aJ/\h.get? a=some { cls:=.type "list",data:=.seq aJ.toArray n}
 |.gn xs=>xs.length<=sizeLine/\∃aJ:List Value,bE xs aJ/\IsTup h a aJ.toArray
 |.dK aI=>aI.length<=sizeLine/\(a == sysModules)=false/\∃vs,KV aI vs/\h.DictOf (bS P w) a vs
 |.dT aI=>aI.length<=sizeLine/\(a == sysModules)=false/\∃xs:List (List dF×Addr×Value),
   Paired (λ(p:List dF×V) (q:List dF×Addr×Value)=>p.1=q.1/\H q.2.1=some (.gn (p.1.map kV))/\bI p.2 q.2.2) aI xs /\
   ∃o es ep,h.get? a=some o/\o.ExactDict/\o.data = .dict es ep/\es.toList=xs.map (entryOfKey (tupleKind (bS P w)))/\(xs.map (·.1)).Nodup
 |.set S n=>h.SetOf (intKind P w) a S n
 |.fH C dx fs=>H dx=some (.tF a)/\fs.length<=1000/\dx≠a/\h.get? a=some (PySem.W.instObj C dx) /\
   ∃mA,h.Ns1 dx mA/\(∀f,jf (fs.lookup f) (mA f))/\PySem.Within mA (fs.map (·.1))
 |.tF _=>∃o,h.get? a=some o
 |.xd fs=>∃mA,h.Ns1 a mA/\∀f,jf (fs.lookup f) (mA f)
 |.rng lo hi=>∃t u v,h.get? a=some { cls:=.type "range",data:=.fields #[.int lo t,.int hi u,.int 1 v]}
 |.qH o u=>h.get? a=some o/\bP H h a u
 |.tbl ps=>h.get? a=some {cls:=.none,data:=.fields ps}
 |.lY f x=>h.get? a=some (PySem.W.methodObj (.ref f) (.ref x))
 |.ext φ=>φ h/\(∃o,h.get? a=some o)/\∀h1 h2:Heap,φ h1->(∀o,h1.get? a=some o->h2.get? a=some o) -> φ h2
def nV (H:Hp)(h:Heap):Prop:=∀a o,H a=some o->bP P w H h a o
end
theorem bP.lt (x:bP P w H h a o):a<h.objs.size:=by
 cases o with
 |bD xs=>obtain⟨_,_,_,_,e⟩:=x;exact zaj e
 |gn xs=>obtain⟨_,_,_,p⟩:=x;exact p.lt
 |dK aI=>obtain⟨_,_,_,_,o,_,_,e,_⟩:=x;exact zaj e
 |dT aI=>obtain⟨_,_,_,_,o,_,_,e,_⟩:=x;exact zaj e
 |set S n=>obtain⟨o,_,_,_,e,_⟩:=x;exact zaj e
 |fH C dx fs=>obtain⟨_,_,_,e,_⟩:=x;exact zaj e
 |tF y=>obtain⟨_,e⟩:=x;exact zaj e
 |xd fs=>obtain⟨_,⟨_,_,_,e,_⟩,_⟩:=x;exact zaj e
 |rng lo hi=>obtain⟨_,_,_,e⟩:=x;exact zaj e
 |qH ob u=>obtain⟨e,_⟩:=x;exact zaj e
 |tbl ps=>exact zaj (show h.get? a=some _ from x)
 |lY f y=>exact zaj (show h.get? a=some _ from x)
 |ext φ=>obtain⟨_,⟨_,e⟩,_⟩:=x;exact zaj e
theorem Paired.agJ {α β:Type}{F G:α -> β -> Prop}:∀{aal:List α} {aam:List β},Paired F aal aam->(∀a b,F a b->G a b)->Paired G aal aam:=by
 intro aal aam h f;induction h with|nil=>exact .nil|cons r t ih =>
  exact .cons (f _ _ r) ih
theorem bP.sD (x:bP P w H h a o)(k:∀b u,(b=a\/H b=some (.tF a))->h.get? b=some u->h'.get? b=some u)
  (ho:∀b,H b=some (.tF a)->H' b=some (.tF a)) (ht:∀b xs,H b=some (.gn xs)->H' b=some (.gn xs)):bP P w H' h' a o:=by
 induction o with
 |bD xs=>obtain⟨z,aJ,n,r,e⟩:=x;exact⟨z,aJ,n,r,k _ _ (.inl rfl) e⟩
 |gn xs=>obtain⟨z,aJ,r,ob,e,c⟩:=x;exact⟨z,aJ,r,ob,k _ _ (.inl rfl) e,c⟩
 |dK aI=>obtain⟨z,y,vs,r,ob,es,ep,e,c⟩:=x;exact⟨z,y,vs,r,ob,es,ep,k _ _ (.inl rfl) e,c⟩
 |dT aI =>
  obtain⟨z,y,xs,r,ob,es,ep,e,c⟩:=x;exact⟨z,y,xs,Paired.agJ r λp q z=>⟨z.1,ht _ _ z.2.1,z.2.2⟩,ob,es,ep,k _ _ (.inl rfl) e,c⟩
 |set S n=>obtain⟨ob,es,ep,t,e,c⟩:=x;exact⟨ob,es,ep,t,k _ _ (.inl rfl) e,c⟩
 |fH C dx fs =>
  obtain⟨d,z,ne,e,mA,⟨od,es,ep,e2,c⟩,r⟩:=x
  exact⟨ho _ d,z,ne,k _ _ (.inl rfl) e,mA,⟨od,es,ep,k _ _ (.inr d) e2,c⟩,r⟩
 |tF y=>obtain⟨ob,e⟩:=x;exact⟨ob,k _ _ (.inl rfl) e⟩
 |xd fs=>obtain⟨mA,⟨od,es,ep,e,c⟩,r⟩:=x;exact⟨mA,⟨od,es,ep,k _ _ (.inl rfl) e,c⟩,r⟩
 |rng lo hi=>obtain⟨t,u,v,e⟩:=x;exact⟨t,u,v,k _ _ (.inl rfl) e⟩
 |qH ob u ih=>obtain⟨e,q⟩:=x;exact⟨k _ _ (.inl rfl) e,ih q⟩
 |tbl ps =>
  have e:h.get? a=some {cls:=.none,data:=.fields ps}:=x
  show h'.get? a=some {cls:=.none,data:=.fields ps}
  exact k a _ (.inl rfl) e
 |lY f y =>
  have e:h.get? a=some (PySem.W.methodObj (.ref f) (.ref y)):=x
  show h'.get? a=some (PySem.W.methodObj (.ref f) (.ref y))
  exact k a _ (.inl rfl) e
 |ext φ=>obtain⟨p,⟨o,e⟩,st⟩:=x;exact⟨st _ _ p λo q=>k _ _ (.inl rfl) q,⟨o,k _ _ (.inl rfl) e⟩,st⟩
theorem nV.lt (x:nV P w H h)(e:H a=some o):a<h.objs.size:=(x a o e).lt
theorem nV.fresh (x:nV P w H h)(e:h.objs.size<=a):H a=none:=by
 cases q:H a with
 |none=>rfl
 |some u=>exact absurd (zap (x.lt q) e) (zaY _)
theorem nV.eU (x:nV P w H h)(k:∀b u,h.get? b=some u->h'.get? b=some u):nV P w H h':=λa o e =>
 (x a o e).sD (λb u _ q=>k b u q) (λ_ q=>q) λ_ _ q=>q
theorem nV.iJ (x:nV P w H h)(k:∀b u,h.get? b=some u->h'.get? b=some u)(hp:h.objs.size<=a)(new:bP P w (bf H a o) h' a o):nV P w (bf H a o) h':=λb u e=>by
 have hn:=x.fresh hp;by_cases hb:b=a
 ·subst hb;rw[aq] at e;cases e;exact new
 ·rw[av hb] at e
  exact (x b u e).sD (λc v _ q=>k c v q) (λc q=>by rw[av (fK q hn)];exact q) λc xs q=>by rw[av (fK q hn)];exact q
def Rd (H:Hp)(a:Addr)(u:HO):Prop:=H a=some u\/∃o,H a=some (.qH o u)
theorem Rd.ok (r:Rd H a u)(x:nV P w H h):bP P w H h a u:=by
 rcases r with r|⟨o,r⟩
 ·exact x a u r
 ·obtain⟨_,q⟩:=x a _ r
  exact q
noncomputable def Mut:Option HO->Prop
 |some (.bD _)=>True
 |some (.dK _)=>True
 |some (.dT _)=>True
 |some (.set _ _)=>True
 |some (.fH _ _ _)=>True
 |some (.ext _)=>True
 |_=>False
theorem nV.j6 (ok:nV P w H h)(mu:Mut (H x))(he:e=x\/H e=some (.tF x))(k:∀b u,b≠e->h.get? b=some u->h'.get? b=some u)(heo:∃u,h'.get? e=some u)
  (new:bP P w (bf H x o') h' x o'):nV P w (bf H x o') h':=λb u q=>by
 have agK:∀c y,H c=some (.tF y)->c≠x:=λc y r z=>by subst z;rw[r] at mu;exact mu
 have ama:∀c xs,H c=some (.gn xs)->c≠x:=λc xs r z=>by subst z;rw[r] at mu;exact mu
 by_cases hb:b=x
 ·subst hb;rw[aq] at q;cases q;exact new
 ·rw[av hb] at q
  by_cases hbe:b=e
  ·have q':H b=some (.tF x):=by
    rcases he with z|z
    ·exact absurd (hbe.trans z) hb
    ·rw[hbe];exact z
   rw[q] at q';cases q'
   obtain⟨v,hv⟩:=heo;exact⟨v,by rw[hbe];exact hv⟩
  ·refine (ok b u q).sD (λc v hc r=>k c v ?_ r) (λc r=>by rw[av (agK c b r)];exact r) λc xs r=>by rw[av (ama c xs r)];exact r
   rcases hc with rfl|hc
   ·exact hbe
   ·rintro rfl
    rcases he with z|z
    ·exact agK c b hc z
    ·rw[hc] at z;cases z;exact hb rfl
structure Un (fs ex:List Addr) (H H':Hp) (h h':Heap):Prop where
 keep:∀b o,h.get? b=some o->H b=none->b∉fs->b∉ex->h'.get? b=some o
 slot:∀b o,h.get? b=some o->H b=none->b∈fs->b∉ex->∃sl,h'.get? b=some {o with slots:=sl}
 free:∀b o,h.get? b=some o->H b=none->b∉ex->H' b=none
 there:∀b o,h.get? b=some o->b∉ex->∃o',h'.get? b=some o'
 xh:∀b xs,H b=some (.gn xs)->H' b=some (.gn xs)
 tG:∀b o u,H b=some (.qH o u)->H' b=some (.qH o u)
 xj:∀b ps,H b=some (.tbl ps)->∃jR,H' b=some (.tbl (ps++jR))
theorem Un.any (u:Un fs ex H H1 h h1)(q:h.get? b=some ob)(n:H b=none)(hx:b∉ex):∃sl,h1.get? b=some {ob with slots:=sl}:=by
 by_cases hb:b∈fs
 ·exact u.slot b ob q n hb hx
 ·exact⟨ob.slots,u.keep b ob q n hb hx⟩
theorem Un.eU (k:∀b u,h.get? b=some u->h'.get? b=some u):Un fs ex H H h h':=
 ⟨λb ob q _ _ _=>k b ob q,λb ob q _ _ _=>⟨ob.slots,k b ob q⟩,λ_ _ _ n _=>n,λb ob q _=>⟨ob,k b ob q⟩,λ_ _ q=>q,λ_ _ _ q=>q,λ_ ps q=>⟨#[],by rw[q];simp⟩⟩
theorem Un.refl:Un fs ex H H h h:=Un.eU λ_ _ q=>q
theorem Un.iJ (k:∀b u,h.get? b=some u->h'.get? b=some u)(hp:h.objs.size<=a)(hn:H a=none):Un fs ex H (bf H a o) h h' where
 keep:=λb u q _ _ _=>k b u q
 slot:=λb u q _ _ _=>⟨u.slots,k b u q⟩
 free:=λb u q n _=>by rw[av (zao (zap (zaj q) hp))];exact n
 there:=λb u q _=>⟨u,k b u q⟩
 xh:=λb xs q=>by rw[av (fK q hn)];exact q
 tG:=λb u xs q=>by rw[av (fK q hn)];exact q
 xj:=λb ps q=>⟨#[],by rw[av (fK q hn),q];simp⟩
theorem Un.j6 (mu:Mut (H x))(he:e=x\/H e=some (.tF x))(k:∀b u,b≠e->h.get? b=some u->h'.get? b=some u)(heo:∃u,h'.get? e=some u):Un fs ex H (bf H x o) h h':=by
 have hx:∀b,H b=none->b≠x:=λb n z=>by subst z;rw[n] at mu;exact mu
 have hb:∀b,H b=none->b≠e:=λb n z=>by
  subst z;rcases he with r|r
  ·exact hx b n r
  ·rw[n] at r;cases r
 have hm:∀b u,H b=some u->¬ Mut (some u)->b≠x:=λb u q nm z=>by subst z;rw[q] at mu;exact nm mu
 refine⟨λb u q n _ _=>k b u (hb b n) q,λb u q n _ _=>⟨u.slots,k b u (hb b n) q⟩,λb u q n _=>by rw[av (hx b n)];exact n,λb u q _=>?_,
  λb xs q=>by rw[av (hm b _ q λz=>z)];exact q,λb u xs q=>by rw[av (hm b _ q λz=>z)];exact q,λb ps q=>⟨#[],by rw[av (hm b _ q λz=>z),q];simp⟩⟩
 by_cases hbe:b=e
 ·subst hbe;exact heo
 ·exact⟨u,k b u hbe q⟩
noncomputable def trk (h:Heap)(H:Hp):List Addr:=(List.range h.objs.size).filter λa=>(H a).isSome
def z6 (h:Heap)(H:Hp):Heap:=PySem.W.hideAll h (trk h H)
theorem Jz (h:Heap)(H:Hp):(z6 h H).objs.size=h.objs.size:=PySem.W.hideAll_size _ _
theorem LZ (e:h.get? b=some o)(n:H b=none):(z6 h H).get? b=some o:=
 PySem.W.hideAll_get _ e λhm=>by
  have q:(H b).isSome=true:=(zeA.mp hm).2
  rw[n] at q;simp at q
theorem R_ (e:(z6 h H).get? b=some o):h.get? b=some o/\H b=none:=by
 have e':h.get? b=some o:=PySem.W.of_hideAll (trk h H) e
 refine⟨e',?_⟩
 cases q:H b with
 |none=>rfl
 |some x =>
  have hm:b∈trk h H:=zeA.mpr ⟨zeR.mpr (zaj e'),by simp[q]⟩
  have z:(z6 h H).get? b=none:=PySem.W.hideAll_none (trk h H) hm
  rw[z] at e;cases e
structure Mod (K:PySem.W.Frag) (mg:Str->Option Value) (base:Heap):Prop where
 kin:K.In base
 tH:base.Ns mainGlobals mg
 WH:∃mb,base.Ns builtinsNs mb/\∀x:Str,x ≠ "__name__" -> mb x=bootBuiltins x
 nolimit:base.NoLimit
structure Cx where
 prog:Program
 w:World
 K:PySem.W.Frag
 mg:Str->Option Value
 base:Heap
 A:Around
 N:List Str
 s₀:Shared
 H₀:Hp
 env:Env
 outer:List Env
 dc:List Env
 ex:List Addr
 fn:Str->Bool
 d9:Bool
 pn:List (Addr×Obj)
 xe:Value->Shared->Prop
noncomputable def sP (l:List Env):List Addr:=l.filterMap (·.frame)
noncomputable abbrev Cx.fs (X:Cx):List Addr:=sP X.outer
def Vis (sc:Scope)(x:Str):Prop:=sc.names.lookup x=some .local\/sc.names.lookup x=some .cell\/sc.names.lookup x=some .free
def WI (sc:Scope)(x:Str):Prop:=sc.names.lookup x=some .local\/sc.names.lookup x=some .cell
def amb (env:Env)(h:Heap)(m:Str->Option Value)(x:Str)(u:Value):Prop:=
 (env.kindOf x=some .local/\m x=some u)\/((env.kindOf x=some .cell\/env.kindOf x=some .free)/\∃c,env.cells.lookup x=some c/\h.IsCell c (some u))
structure Cx.Ok (X:Cx):Prop where
 tK:Mod X.K X.mg X.base
 kind:X.env.scope.kind = .function
 tH:X.env.globals=mainGlobals
 WH:X.env.builtins=builtinsNs
 above:X.s₀.heap.objs.size<=X.env.locals
 inj:∀x y c,X.env.cells.lookup x=some c->X.env.cells.lookup y=some c->x=y
 has:∀x,(X.env.kindOf x=some .cell\/X.env.kindOf x=some .free)->∃c,X.env.cells.lookup x=some c
 cab:∀x c,X.fn x=true->X.env.cells.lookup x=some c->X.s₀.heap.objs.size<=c
 hd:X.d9=true->X.A.handled=none
 frames:X.A.frames=some X.dc
 stk:X.dc=X.outer\/(X.dc=X.env::X.outer/\X.env.frame=some X.env.locals)
 exf:∀b∈X.ex,b≠X.env.locals/\∀x c,X.env.cells.lookup x=some c->c≠b
 bs:∀b o,X.base.get? b=some o->X.s₀.heap.get? b=some o/\X.H₀ b=none
 RJ:X.base.objs.size<=X.s₀.heap.objs.size
 jA:∀b o,X.base.get? b=some o->b∉X.ex
 EL:∀b∈X.ex,b∉X.fs
 mD:X.s₀.heap.FunFrames X.base X.outer
 L1:∀b∈X.fs,X.H₀ b=none
structure aH (X:Cx) (ah:List (Addr×Obj)) (σ:List (Option V)) (H:Hp) (s:Shared):Prop where
 ok:X.Ok
 os:s.os=X.s₀.os
 iX:AllBare s.gens
 base:Un X.fs X.ex X.H₀ H X.s₀.heap s.heap
 BL:∃m,s.heap.Ns X.env.locals m/\∀(i:Nat) (x:Str) (v:V),X.N[i]? = some x -> σ[i]? = some (some v)->Vis X.env.scope x->∃u,bI v u/\amb X.env s.heap m x u
 cell:∀x c,X.env.cells.lookup x=some c->∃v,s.heap.IsCell c v
 free:H X.env.locals=none
 lZ:∀x c,X.env.cells.lookup x=some c->H c=none
 Es:∀p∈X.pn++ah,s.heap.get? p.1=some p.2/\H p.1=none/\p.1≠X.env.locals/\p.1∉X.fs/\∀v,p.2.data ≠ .cell v
 bZ:nV X.prog X.w H s.heap
 len:σ.length=X.N.length
section
variable {X:Cx}{ah:List (Addr×Obj)}{σ:List (Option V)}{H H':Hp}{s:Shared}{h':Heap}
theorem Cx.Ok.amc (ok:X.Ok)(e:X.base.get? b=some o):b∉X.fs:=λhb=>by
 have:=(ok.mD.mem hb).1
 rw[e] at this;cases this
theorem aH.bs (I:aH X ah σ H s):∀b o,X.base.get? b=some o->s.heap.get? b=some o/\H b=none:=λb o e =>
 ⟨I.base.keep b o (I.ok.bs b o e).1 (I.ok.bs b o e).2 (I.ok.amc e) (I.ok.jA b o e),I.base.free b o (I.ok.bs b o e).1 (I.ok.bs b o e).2 (I.ok.jA b o e)⟩
theorem aH.bk (I:aH X ah σ H s):∀b o,X.base.get? b=some o->s.heap.get? b=some o:=λb o e=>(I.bs b o e).1
theorem aH.tK (I:aH X ah σ H s):Mod X.K X.mg X.base:=I.ok.tK
theorem aH.kT (I:aH X ah σ H s):X.K.In s.heap:=I.ok.tK.kin.keeps I.bk
theorem aH.lt (I:aH X ah σ H s):X.env.locals<s.heap.objs.size:=let ⟨_,hn,_⟩:=I.BL;hn.lt
theorem aH.sz (I:aH X ah σ H s):X.s₀.heap.objs.size<=s.heap.objs.size:=zah I.ok.above (zdw I.lt)
theorem aH.amd (I:aH X ah σ H s)(h:s.heap.objs.size<=a):a∉X.fs:=λhb=>by
 obtain⟨_,o,ho,_⟩:=I.ok.mD.mem hb;exact absurd (zap (zaj ho) (zah I.sz h)) (zaY _)
theorem aH.cne (I:aH X ah σ H s):∀x c,X.env.cells.lookup x=some c->c≠X.env.locals:=λx c e z=>by
 obtain⟨v,o,ho,hd⟩:=I.cell x c e;obtain⟨m,⟨o',es,ep,sQ,RL,_⟩,_⟩:=I.BL
 rw[z,sQ] at ho;cases ho;rw[RL] at hd;cases hd
theorem aH.mD (I:aH X ah σ H s):s.heap.FunFrames X.base X.outer:=by
 have all:∀(l:List Env),(∀b∈sP l,b∈X.fs)->X.s₀.heap.FunFrames X.base l->s.heap.FunFrames X.base l:=by
  intro l;induction l with
  |nil=>intro _ _;trivial
  |cons env r ih =>
   intro hs hl;obtain⟨hk,⟨L,o,hf,hn,ho,hd⟩,hr⟩:=hl
   have hL:L∈X.fs:=hs L (by unfold sP;rw[zcW,hf];exact zbI)
   obtain⟨sl,e⟩:=I.base.slot L o ho (I.ok.L1 L hL) hL λz=>I.ok.EL L z hL
   exact⟨hk,⟨L,_,hf,hn,e,hd⟩,ih (λb hb=>hs b (by unfold sP;rw[zcW,hf];exact zaJ _ hb)) hr⟩
 exact all X.outer (λ_ hb=>hb) I.ok.mD
theorem aH.dc (I:aH X ah σ H s):s.heap.FunFrames X.base X.dc:=by
 rcases I.ok.stk with e|⟨e,hf⟩
 ·rw[e];exact I.mD
 ·rw[e]
  obtain⟨m,hn,_⟩:=I.BL;refine .cons (by rw[I.ok.kind];decide) hf hn ?_ I.mD
  exact Heap.get?_none_of_le (zah I.ok.RJ I.ok.above)
theorem aH.EM (I:aH X ah σ H s):∀b∈sP X.dc,b∈X.env.locals::X.fs:=λb hb=>by
 rcases I.ok.stk with e|⟨e,hf⟩
 ·rw[e] at hb;exact zaJ _ hb
 ·rw[e] at hb
  unfold sP at hb;rw[zcW,hf] at hb;exact hb
theorem aH.G1 (I:aH X ah σ H s):∀b∈sP X.dc,H b=none:=λb hb=>by
 rcases zam.mp (I.EM b hb) with e|hb
 ·rw[e];exact I.free
 ·obtain⟨_,o,ho,_⟩:=I.ok.mD.mem hb
  exact I.base.free b o ho (I.ok.L1 b hb) λz=>I.ok.EL b z hb
theorem aH.BN {g':Array GenState}{t':Nat}{d':Drawn}{ch:List Addr}(I:aH X ah σ H s)
  (RM:∀b∈ch,(b∈X.ex\/X.s₀.heap.objs.size<=b)/\b≠X.env.locals/\(∀x c,X.env.cells.lookup x=some c->c≠b)/\∀p∈X.pn++ah,p.1≠b)
  (keep:∀b o,b≠X.env.locals->b∉X.fs->b∉ch->s.heap.get? b=some o->H b=none->h'.get? b=some o)
  (slot:∀b o,b≠X.env.locals->b∈X.fs->b∉ch->s.heap.get? b=some o->H b=none->∃sl,h'.get? b=some {o with slots:=sl}) (free:∀b o,b∉ch->s.heap.get? b=some o->H b=none->H' b=none)
  (there:∀b o,b∉ch->s.heap.get? b=some o->∃o',h'.get? b=some o')
  (xh:∀b xs,H b=some (.gn xs)->H' b=some (.gn xs)) (tG:∀b o u,H b=some (.qH o u)->H' b=some (.qH o u)) (xj:∀b ps,H b=some (.tbl ps)->∃jR,H' b=some (.tbl (ps++jR)))
  (ns:∀m,s.heap.Ns X.env.locals m->h'.Ns X.env.locals m) (bZ:nV X.prog X.w H' h') (hg:AllBare g'):
  aH X ah σ H' {s with heap:=h',gens:=g',drawn:=d',toks:=t' }:=by
 have neL:∀b o,X.s₀.heap.get? b=some o->b≠X.env.locals:=λb o e=>zao (zap (zaj e) I.ok.above)
 have neC:∀b o,X.s₀.heap.get? b=some o->b∉X.ex->b∉ch:=λb o e hx hb=>by
  rcases (RM b hb).1 with z|z
  ·exact hx z
  ·exact absurd (zap (zaj e) z) (zaY _)
 have WJ:∀x c,X.env.cells.lookup x=some c->∀v,s.heap.IsCell c v->h'.IsCell c v:=λx c e v ⟨o,ho,hd⟩=>by
  have nch:c∉ch:=λz=>(RM c z).2.2.1 x c e rfl
  by_cases hc:c∈X.fs
  ·obtain⟨sl,q⟩:=slot c o (I.cne x c e) hc nch ho (I.lZ x c e)
   exact⟨_,q,hd⟩
  ·exact⟨o,keep c o (I.cne x c e) hc nch ho (I.lZ x c e),hd⟩
 refine⟨I.ok,I.os,hg,⟨λb o e n hb hx=>?_,λb o e n hb hx=>?_,λb o e n hx=>?_,λb o e hx=>?_,λb xs e=>xh b xs (I.base.xh b xs e),λb o xs e=>tG b o xs (I.base.tG b o xs e),λb ps e=>?_⟩,?_,λx c e=>?_,?_,λx c e=>?_,λp hp=>?_,bZ,I.len⟩
 ·exact keep b o (neL b o e) hb (neC b o e hx) (I.base.keep b o e n hb hx) (I.base.free b o e n hx)
 ·obtain⟨sl,e1⟩:=I.base.slot b o e n hb hx
  obtain⟨sl',e2⟩:=slot b _ (neL b o e) hb (neC b o e hx) e1 (I.base.free b o e n hx)
  exact⟨sl',e2⟩
 ·obtain⟨o',e1⟩:=I.base.there b o e hx
  exact free b o' (neC b o e hx) e1 (I.base.free b o e n hx)
 ·obtain⟨o',e1⟩:=I.base.there b o e hx
  exact there b o' (neC b o e hx) e1
 ·obtain⟨m1,e1⟩:=I.base.xj b ps e
  obtain⟨m2,e2⟩:=xj b _ e1;exact⟨m1++m2,by rw[e2,Array.append_assoc]⟩
 ·obtain⟨m,hn,hl⟩:=I.BL
  refine⟨m,ns m hn,λi x v e1 e2 e3=>?_⟩
  obtain⟨u,r,l⟩:=hl i x v e1 e2 e3;refine⟨u,r,?_⟩
  rcases l with l|⟨k,c,e,z⟩
  ·exact .inl l
  ·exact .inr ⟨k,c,e,WJ x c e _ z⟩
 ·obtain⟨v,z⟩:=I.cell x c e
  exact⟨v,WJ x c e v z⟩
 ·obtain⟨m,⟨o,_,_,ho,_⟩,_⟩:=I.BL
  exact free _ o (λz=>(RM _ z).2.1 rfl) ho I.free
 ·obtain⟨v,o,ho,hd⟩:=I.cell x c e
  exact free c o (λz=>(RM c z).2.2.1 x c e rfl) ho (I.lZ x c e)
 ·obtain⟨e,n,ne,nf,d⟩:=I.Es p hp
  have nch:p.1∉ch:=λz=>(RM p.1 z).2.2.2 p hp rfl
  exact⟨keep p.1 p.2 ne nf nch e n,free p.1 p.2 nch e n,ne,nf,d⟩
theorem aH.un {t':Nat}(I:aH X ah σ H s)(u:Un X.fs [] H H' s.heap h')(bZ:nV X.prog X.w H' h'):aH X ah σ H' {s with heap:=h',toks:=t' }:=by
 obtain⟨m,⟨o,es,ep,ho,r⟩,_⟩:=id I.BL
 obtain⟨sl,hL⟩:=u.any ho I.free (by simp)
 exact I.BN (g':=s.gens) (d':=s.drawn) (ch:=[]) (λ_ z=>nomatch z) (λb o _ hb _ e n=>u.keep b o e n hb (by simp)) (λb o _ hb _ e n=>u.slot b o e n hb (by simp)) (λb o _ e n=>u.free b o e n (by simp)) (λb o _ e=>u.there b o e (by simp)) u.xh u.tG u.xj (λm' hm=>by
  obtain⟨o',es',ep',sQ,r'⟩:=hm;rw[ho] at sQ;cases sQ
  exact⟨_,es',ep',hL,r'⟩) bZ I.iX
theorem aH.call {g':Array GenState}{t':Nat}{d':Drawn}{ch:List Addr}(I:aH X ah σ H s)(u:Un (sP X.dc) ch H H' s.heap h')(bZ:nV X.prog X.w H' h')(hg:AllBare g')
  (RM:∀b∈ch,(b∈X.ex\/X.s₀.heap.objs.size<=b)/\b≠X.env.locals/\(∀x c,X.env.cells.lookup x=some c->c≠b)/\∀p∈X.pn++ah,p.1≠b):
  aH X ah σ H' {s with heap:=h',gens:=g',drawn:=d',toks:=t' }:=by
 obtain⟨m,⟨o,es,ep,ho,r⟩,_⟩:=id I.BL
 obtain⟨sl,hL⟩:=u.any ho I.free λz=>(RM _ z).2.1 rfl
 exact I.BN (ch:=ch) RM (λb o hL hb hc e n=>u.keep b o e n (λz=>(zam.mp (I.EM b z)).elim hL hb) hc) (λb o _ _ hc e n=>u.any e n hc) (λb o hc e n=>u.free b o e n hc) (λb o hc e=>u.there b o e hc) u.xh u.tG u.xj (λm' hm=>by
  obtain⟨o',es',ep',sQ,r'⟩:=hm;rw[ho] at sQ;cases sQ
  exact⟨_,es',ep',hL,r'⟩) bZ hg
theorem aH.oM {t':Nat}{it:Addr}(I:aH X ah σ H s)(k:∀b o,b≠it->s.heap.get? b=some o->h'.get? b=some o)(hn:H it=none)(hL:it≠X.env.locals)
  (h1:it∈X.ex\/X.s₀.heap.objs.size<=it) (h2:∀x c,X.env.cells.lookup x=some c->c≠it) (h3:∀p∈X.pn++ah,p.1≠it):aH X ah σ H {s with heap:=h',toks:=t' }:=by
 have nit:∀b u,H b=some u->b≠it:=λb u e z=>by rw[z,hn] at e;cases e
 refine I.BN (g':=s.gens) (d':=s.drawn) (ch:=[it]) (λb hb=>?_) (λb o _ _ hc e _=>k b o (λz=>hc (by simp[z])) e) (λb o _ _ hc e _=>⟨o.slots,k b o (λz=>hc (by simp[z])) e⟩) (λ_ _ _ _ n=>n)
  (λb o hc e=>⟨o,k b o (λz=>hc (by simp[z])) e⟩) (λ_ _ e=>e) (λ_ _ _ e=>e) (λb ps e=>⟨#[],by rw[e];simp⟩) (λm hm=>?_) (λb u e=>?_) I.iX
 ·have e:b=it:=by simpa using hb
  subst e;exact⟨h1,hL,h2,h3⟩
 ·obtain⟨o,es,ep,ho,r⟩:=hm
  exact⟨o,es,ep,k _ o (zbe hL) ho,r⟩
 ·refine (I.bZ b u e).sD (λc v hc q=>k c v ?_ q) (λ_ q=>q) λ_ _ q=>q
  rcases hc with z|z
  ·rw[z];exact nit b u e
  ·exact nit c _ z
theorem aH.o9 (I:aH X ah σ H s)(t:Nat):aH X ah σ H {s with toks:=t}:=I.un (h':=s.heap) (t':=t) Un.refl I.bZ
theorem aH.eU (I:aH X ah σ H s)(k:∀b u,s.heap.get? b=some u->h'.get? b=some u):aH X ah σ H {s with heap:=h',toks:=t' }:=I.un (Un.eU k) (I.bZ.eU k)
theorem aH.iJ (I:aH X ah σ H s)(k:∀b u,s.heap.get? b=some u->h'.get? b=some u)(hp:s.heap.objs.size<=a)(new:bP X.prog X.w (bf H a o) h' a o):
  aH X ah σ (bf H a o) {s with heap:=h',toks:=t' }:=I.un (Un.iJ k hp (I.bZ.fresh hp)) (I.bZ.iJ k hp new)
theorem aH.j6 (I:aH X ah σ H s)(mu:Mut (H x))(he:e=x\/H e=some (.tF x))(k:∀b u,b≠e->s.heap.get? b=some u->h'.get? b=some u)(heo:∃u,h'.get? e=some u)
  (new:bP X.prog X.w (bf H x o) h' x o):aH X ah σ (bf H x o) {s with heap:=h',toks:=t' }:=I.un (Un.j6 mu he k heo) (I.bZ.j6 mu he k heo new)
theorem aH.G2 (I:aH X ah σ H s)(h:∀p∈agO,s.heap.get? p.1=some p.2/\H p.1=none/\p.1≠X.env.locals/\p.1∉X.fs/\∀v,p.2.data ≠ .cell v):aH X agO σ H s:=
 ⟨I.ok,I.os,I.iX,I.base,I.BL,I.cell,I.free,I.lZ,λp hp=>(zbt.mp hp).elim (λz=>I.Es p (zcn _ z)) (h p),I.bZ,I.len⟩
theorem BO {N:List Str}(hN:N.Nodup){i j:Nat}{x:Str}(a:N[i]? = some x)(b:N[j]? = some x):i=j:=by
 obtain⟨h1,e1⟩:=zae.mp a
 obtain⟨h2,e2⟩:=zae.mp b
 exact (List.getElem_inj hN).mp (e1.trans e2.symm)
theorem yd {M:Model}{A:Around}{E:Value->Shared->Prop}{i:Nat}{x:Str}{v:V}{u:Value}{Q:Unit->Shared->Prop}(I:aH X ah σ H s)(hN:X.N.Nodup)(hi:X.N[i]? = some x)(hx:WI X.env.scope x)(r:bI v u)
  (h:∀s',aH X ah (σ.set i (some v)) H s'->(∃a,Heap.SameBut a s.heap s'.heap/\(a=X.env.locals\/X.env.cells.lookup x=some a))->Q () s') (hf:X.fn x=true\/X.env.scope.names.lookup x=some .local:=by first|exact .inl rfl|exact .inr rfl|assumption):wpAny M A (storeName X.env x u) Q E s:=by
 obtain⟨m,hn,hl⟩:=id I.BL;have aar:(X.env.scope.kind == .class || (X.env.scope.kind == .module && X.env.locals != X.env.globals))=false:=by rw[I.ok.kind];rfl
 have agP:i<σ.length:=by rw[I.len];exact (zae.mp hi).1
 have cne:=I.cne;have z8:∀{a:Addr} {h':Heap},(∃o,s.heap.get? a=some o/\H a=none)->Heap.SameBut a s.heap h'->nV X.prog X.w H h':=λ{a h'} ha hs b ob e=>by
  obtain⟨_,_,ye⟩:=ha;refine (I.bZ b ob e).sD (λc w' hc q=>(hs.2 c ?_).trans q) (λ_ q=>q) λ_ _ q=>q
  rintro rfl
  rcases hc with rfl|hc
  ·rw[ye] at e;cases e
  ·rw[ye] at hc;cases hc
 rcases hx with hk|hk
 ·refine wpAny_storeName_local hk hn (λh' hn' hs=>?_) aar
  obtain⟨oL,_,_,hoL,_⟩:=id hn;refine h _ ⟨I.ok,I.os,I.iX,⟨λb o e n hb hx=>?_,λb o e n hb hx=>?_,I.base.free,λb o e hx=>?_,I.base.xh,I.base.tG,I.base.xj⟩,⟨_,hn',λj y v' e1 e2 e3=>?_⟩,λy c e=>?_,I.free,I.lZ,λp hp=>?_,z8 ⟨oL,hoL,I.free⟩ hs,by simpa using I.len⟩ ⟨_,hs,.inl rfl⟩
  ·exact (hs.2 b (zao (zap (zaj e) I.ok.above))).trans (I.base.keep b o e n hb hx)
  ·obtain⟨sl,e1⟩:=I.base.slot b o e n hb hx
   exact⟨sl,(hs.2 b (zao (zap (zaj e) I.ok.above))).trans e1⟩
  ·obtain⟨o',e1⟩:=I.base.there b o e hx
   exact⟨o',(hs.2 b (zao (zap (zaj e) I.ok.above))).trans e1⟩
  ·by_cases hj:j=i
   ·subst hj
    rw[hi] at e1;cases e1
    rw[zaM agP] at e2;cases e2;exact⟨u,r,.inl ⟨hk,by simp⟩⟩
   ·rw[zaK (zbe hj)] at e2
    obtain⟨u',r',q⟩:=hl j y v' e1 e2 e3;refine⟨u',r',?_⟩
    rcases q with⟨k,e⟩|⟨k,c,e,z⟩
    ·refine .inl ⟨k,?_⟩
     have:y≠x:=λe=>hj (BO hN e1 (e ▸ hi))
     simp[this,e]
    ·exact .inr ⟨k,c,e,z.sameBut hs (cne y c e)⟩
  ·obtain⟨w',z⟩:=I.cell y c e
   exact⟨w',z.sameBut hs (cne y c e)⟩
  ·obtain⟨e,n,ne,nf,d⟩:=I.Es p hp
   exact⟨(hs.2 p.1 ne).trans e,n,ne,nf,d⟩
 ·have hfn:X.fn x=true:=by
   rcases hf with z|z
   ·exact z
   ·rw[z] at hk;cases hk
  obtain⟨c,hc⟩:=I.ok.has x (.inl hk)
  obtain⟨w',z⟩:=I.cell x c hc;refine wpAny_storeName_cell I.ok.kind hk hc z (λh' Sa hs=>?_)
  obtain⟨oc,hoc,amg⟩:=id z;refine h {s with heap:=h' } ⟨I.ok,I.os,I.iX,⟨λb o e n hb hx=>?_,λb o e n hb hx=>?_,I.base.free,λb o e hx=>?_,I.base.xh,I.base.tG,I.base.xj⟩,⟨m,hn.sameBut hs (zbe (cne x c hc)),λj y v' e1 e2 e3=>?_⟩,λy c' e=>?_,I.free,I.lZ,λp hp=>?_,z8 ⟨oc,hoc,I.lZ x c hc⟩ hs,by simpa using I.len⟩ ⟨c,hs,.inr hc⟩
  ·exact (hs.2 b (zao (zap (zaj e) (I.ok.cab x c hfn hc)))).trans (I.base.keep b o e n hb hx)
  ·obtain⟨sl,e1⟩:=I.base.slot b o e n hb hx
   exact⟨sl,(hs.2 b (zao (zap (zaj e) (I.ok.cab x c hfn hc)))).trans e1⟩
  ·obtain⟨o',e1⟩:=I.base.there b o e hx
   exact⟨o',(hs.2 b (zao (zap (zaj e) (I.ok.cab x c hfn hc)))).trans e1⟩
  ·by_cases hj:j=i
   ·subst hj
    rw[hi] at e1;cases e1
    rw[zaM agP] at e2;cases e2;exact⟨u,r,.inr ⟨.inl hk,c,hc,Sa⟩⟩
   ·rw[zaK (zbe hj)] at e2
    obtain⟨u',r',q⟩:=hl j y v' e1 e2 e3;refine⟨u',r',?_⟩
    rcases q with q|⟨k,c',e,z'⟩
    ·exact .inl q
    ·refine .inr ⟨k,c',e,z'.sameBut hs ?_⟩
     rintro rfl
     exact hj (BO hN e1 (I.ok.inj _ _ _ e hc ▸ hi))
  ·by_cases hcc:c'=c
   ·subst hcc;exact⟨_,Sa⟩
   ·obtain⟨w2,z2⟩:=I.cell y c' e
    exact⟨w2,z2.sameBut hs hcc⟩
  ·obtain⟨e,n,ne,nf,d⟩:=I.Es p hp
   refine⟨(hs.2 p.1 ?_).trans e,n,ne,nf,d⟩
   intro q;rw[q,hoc] at e;have q':oc=p.2:=zaw e
   exact d w' (by rw[<-q'];exact amg)
theorem pq (I:aH X ah σ H s)(hN:X.N.Nodup)(hi:X.N[i]? = some x)(hx:WI X.env.scope x)(r:bI v u)
  (h:∀s',aH X ah (σ.set i (some v)) H s'->Q () s') (hf:X.fn x=true\/X.env.scope.names.lookup x=some .local:=by first|exact .inl rfl|exact .inr rfl|assumption):wpAny M A (storeName X.env x u) Q E s:=
 yd I hN hi hx r (λs' I' _=>h s' I') hf
theorem aH.G3 (I:aH X ah σ H s)(ho:s'.os=s.os)(u:Un (sP X.dc) ch H H' s.heap s'.heap)(bZ:nV X.prog X.w H' s'.heap)(hg:AllBare s'.gens)
  (RM:∀b∈ch,(b∈X.ex\/X.s₀.heap.objs.size<=b)/\b≠X.env.locals/\(∀x c,X.env.cells.lookup x=some c->c≠b)/\∀p∈X.pn++ah,p.1≠b):aH X ah σ H' s':=by
 obtain⟨h',g',d',t',o'⟩:=s';have e:o'=s.os:=ho
 subst e;exact I.call (g':=g') (t':=t') (d':=d') u bZ hg RM
end
noncomputable abbrev XK:=Value->Option Addr->Hp->Prop
noncomputable abbrev St:=List (Option V)
noncomputable abbrev VK:=V->Hp->Prop
noncomputable abbrev TE:=St->Hp->VK->Prop
noncomputable abbrev TT:=St->Hp->(Bool->Hp->Prop)->Prop
noncomputable abbrev TA:=St->Hp->(List V->Hp->Prop)->Prop
structure BP where
 nx:St->Hp->Prop
 rt:VK
 bk:St->Hp->Prop:=λ_ _=>False
 ct:St->Hp->Prop:=λ_ _=>False
noncomputable abbrev TS:=BP->St->Hp->Prop
def EP (X:Cx)(ah:List (Addr×Obj))(σ:St)(Q:VK)(u:Value)(s':Shared):Prop:=∃v H',aH X ah σ H' s'/\bI v u/\Q v H'
def TP (X:Cx)(ah:List (Addr×Obj))(σ:St)(Q:Bool->Hp->Prop)(b:Bool)(s':Shared):Prop:=∃H',aH X ah σ H' s'/\Q b H'
def AP (X:Cx)(ah:List (Addr×Obj))(σ:St)(Q:List V->Hp->Prop)(us:List Value)(s':Shared):Prop:=∃vs H',aH X ah σ H' s'/\bE vs us/\Q vs H'
def SP (X:Cx)(ah:List (Addr×Obj))(D:BP)(f:Flow)(s':Shared):Prop:=
 match f with
 |.next=>∃eV H',aH X ah eV H' s'/\D.nx eV H'
 |.brk=>∃eV H',aH X ah eV H' s'/\D.bk eV H'
 |.cont=>∃eV H',aH X ah eV H' s'/\D.ct eV H'
 |.ret u=>∃v eV H',aH X ah eV H' s'/\bI v u/\D.rt v H'
def PE (X:Cx)(e:Expr)(t:TE):Prop:=
 ∀(ah:List (Addr×Obj)) (s:Shared) (σ:St) (H:Hp) (Q:VK),aH X ah σ H s->t σ H Q->wpAny (model X.prog X.w) X.A (eval e X.env) (EP X ah σ Q) X.xe s
def PT (X:Cx)(e:Expr)(t:TT):Prop:=
 ∀(ah:List (Addr×Obj)) (s:Shared) (σ:St) (H:Hp) (Q:Bool->Hp->Prop),aH X ah σ H s->t σ H Q->wpAny (model X.prog X.w) X.A (isTrue e X.env (eval e X.env)) (TP X ah σ Q) X.xe s
def PW (X:Cx)(e:Expr)(t:TT):Prop:=
 ∀(tL:Sem Value) (ah:List (Addr×Obj)) (s:Shared) (σ:St) (H:Hp) (Q:Bool->Hp->Prop),aH X ah σ H s->t σ H Q->wpAny (model X.prog X.w) X.A (isTrue e X.env tL) (TP X ah σ Q) X.xe s
theorem PW.pt (h:PW X e t):PT X e t:=h _
def PA (X:Cx)(es:List Expr)(t:TA):Prop:=
 ∀(pos:Pos) (ah:List (Addr×Obj)) (s:Shared) (σ:St) (H:Hp) (Q:List V->Hp->Prop),aH X ah σ H s->t σ H Q->wpAny (model X.prog X.w) X.A (spliced (backTo pos (starEach es X.env))) (AP X ah σ Q) X.xe s
def PS (X:Cx)(st:Stmt)(t:TS):Prop:=
 ∀(ah:List (Addr×Obj)) (s:Shared) (σ:St) (H:Hp) (D:BP),aH X ah σ H s->t D σ H->wpAny (model X.prog X.w) X.A (exec st X.env) (SP X ah D) X.xe s
def yf (X:Cx)(st:List Stmt)(t:TS):Prop:=
 ∀(ah:List (Addr×Obj)) (s:Shared) (σ:St) (H:Hp) (D:BP),aH X ah σ H s->t D σ H->wpAny (model X.prog X.w) X.A (execs st X.env) (SP X ah D) X.xe s
theorem cP {α:Type}{t:Sem α}{Q Q' : α -> Shared->Prop}{M:Model}{A:Around}{E:Value->Shared->Prop}{s:Shared}(h:wpAny M A t Q E s)(hQ:∀a s,Q a s->Q' a s):wpAny M A t Q' E s:=zaO h hQ λ_ _ x=>x
section
variable {X:Cx}
def agQ (i:Nat):TE:=λσ H Q=>∃v,σ[i]? = some (some v)/\Q v H
def tC (v:V):TE:=λ_ H Q=>Q v H
theorem L4 (hN:X.N[i]? = some x)(hv:Vis X.env.scope x)(hd:(x == ("__debug__":Str))=false:=by decide)(BQ:(x == ("__classdict__":Str))=false:=by decide):PE X (.Name x pos) (agQ i):=by
 intro ah s σ H Q I h;obtain⟨v,e,h⟩:=h;obtain⟨m,hn,hl⟩:=I.BL;obtain⟨u,r,l⟩:=hl i x v hN e hv;have fP:EP X ah σ Q u s:=⟨v,H,I,r,h⟩
 rcases l with⟨hk,hm⟩|⟨hk,c,hc,BR⟩
 ·exact wpAny_Name (wpAny_loadName_local I.ok.kind hk hn hm fP) hd
 ·rcases hk with hk|hk
  ·exact wpAny_Name (wpAny_loadName_cell I.ok.kind hk hc BR fP) hd
  ·exact wpAny_Name (wpAny_loadName_free I.ok.kind hk hc BR fP BQ) hd
theorem aas {i j pos}:PE X (.Constant (.int i) j pos) (tC (.int i)):=λ_ _ _ H _ I h=>wpAny_Constant_int ⟨.int i,H,I.o9 _,⟨_,rfl⟩,h⟩
theorem agR {b j pos}:PE X (.Constant (.bool b) j pos) (tC (.bl b)):=λ_ _ _ H _ I h=>Constant_bool ⟨.bl b,H,I,rfl,h⟩
theorem aat {j pos}:PE X (.Constant .none j pos) (tC .bq):=λ_ _ _ H _ I h=>Constant_none ⟨.bq,H,I,rfl,h⟩
theorem aau {x j pos}:PE X (.Constant (.str x) j pos) (tC (.str x)):=λ_ _ _ H _ I h=>Calls.Constant_str ⟨.str x,H,I.o9 _,⟨_,rfl⟩,h⟩
def Gl (X:Cx)(x:Str):Prop:=X.env.kindOf x=some .globalImplicit
theorem nE (I:aH X ah σ H s)(hg:Gl X x)(hm:X.mg x=some u)(h:Q u s)
  (hd:(x == ("__debug__":Str))=false:=by decide):wpAny (model X.prog X.w) X.A (eval (.Name x pos) X.env) Q E s:=
 zdW I.ok.kind hg (Calls.loadGlobal_global (by rw[I.ok.tH];exact I.tK.tH.keeps I.bk) hm h) hd
theorem tM (I:aH X ah σ H s)(hg:Gl X x)(hm:X.mg x=none)(hv:bootBuiltins x=some u)(h:Q u s)
  (hn:x ≠ "__name__" := by decide) (hd:(x == ("__debug__":Str))=false:=by decide):wpAny (model X.prog X.w) X.A (eval (.Name x pos) X.env) Q E s:=by
 obtain⟨mb,h1,h2⟩:=I.tK.WH;exact zdW I.ok.kind hg (Calls.loadGlobal_builtin (by rw[I.ok.tH];exact I.tK.tH.keeps I.bk) hm (by rw[I.ok.WH];exact h1.keeps I.bk) ((h2 x hn).trans hv) h) hd
theorem Sb (hg:Gl X x)(hm:X.mg x=some u)(r:bI v u)(hd:(x == ("__debug__":Str))=false:=by decide):PE X (.Name x pos) (tC v):=
 λ_ _ _ H _ I h=>nE I hg hm ⟨v,H,I,r,h⟩ hd
theorem Sd (hg:Gl X x)(hm:X.mg x=none)(hv:bootBuiltins x=some u)(r:bI v u)(hn:x ≠ "__name__" := by decide)(hd:(x == ("__debug__":Str))=false:=by decide):PE X (.Name x pos) (tC v):=
 λ_ _ _ H _ I h=>tM I hg hm hv ⟨v,H,I,r,h⟩ hn hd
variable {a b:Expr}{ta tb:TE}{pos:Pos}
def PC (X:Cx)(op:CmpOp)(a b:Expr)(t:TE):Prop:=
 ∀(ah:List (Addr×Obj)) (s:Shared) (σ:St) (H:Hp) (Q:VK),aH X ah σ H s->t σ H Q ->
  wpAny (model X.prog X.w) X.A (eval a X.env) (λv cD=>wpAny (model X.prog X.w) X.A (eval b X.env) (λu j7=>wpAny (model X.prog X.w) X.A (compareOp op v u) (EP X ah σ Q) X.xe j7) X.xe cD) X.xe s
def tB (t:TE):TT:=λσ H Q=>t σ H λx H1=>∃c,x = .bl c/\Q c H1
theorem aav (h:PC X op a b t)(h1:behindInMarks op b=false:=by first|exact L5 _ (by decide) (by decide)|rfl):PE X (.Compare a [op] [b] pos) t:=λah s σ H Q I hw=>wpAny_Compare1 (h ah s σ H Q I hw) h1
theorem L6 (h:PC X op a b t)(h1:behindInMarks op b=false:=by first|exact L5 _ (by decide) (by decide)|rfl):PT X (.Compare a [op] [b] pos) (tB t):=by
 intro ah s σ H Q I hw;refine wpAny_isTrue_Compare1 (cP (h ah s σ H _ I hw) λv s1 h1=>cP h1 λu s2 h2=>cP h2 λc s3 ⟨x,H1,I1,r1,q1⟩=>?_) h1
 obtain⟨d,rfl,q⟩:=q1;cases r1;exact zbh ⟨H1,I1,q⟩
theorem aaw (h:PE X e t)(he:∀tL,isTrue e X.env tL=(do let v <-tL;standAt e.pos;holding [v] (truthy v)):=by intro _;rfl):PT X e (tB t):=by
 intro ah s σ H Q I hw;refine isTrue_plain (cP (h ah s σ H _ I hw) λv s1 ⟨x,H1,I1,r1,q1⟩=>?_) (he _)
 obtain⟨d,rfl,q⟩:=q1;cases r1;exact zbh ⟨H1,I1,q⟩
variable {tA tB':TT}{dg:List Expr}
def amh (t u:TT):TT:=λσ H Q=>t σ H λc H1=>if c=true then u σ H1 Q else Q false H1
def tOr (t u:TT):TT:=λσ H Q=>t σ H λc H1=>if c=true then Q true H1 else u σ H1 Q
def ami (t:TT):TT:=λσ H Q=>t σ H λc H1=>Q (!c) H1
theorem Se (ha:PT X a tA):PW X (.BoolOp .And [a] pos) tA:=by
 intro wh ah s σ H Q I h;refine isTrue_and (cP (ha ah s σ H Q I h) λc s1 e=>?_)
 cases c with
 |true=>exact isTrue_and_nil e
 |false=>exact e
theorem aax (ha:PT X a tA):PW X (.BoolOp .Or [a] pos) tA:=by
 intro wh ah s σ H Q I h;refine isTrue_or (cP (ha ah s σ H Q I h) λc s1 e=>?_)
 cases c with
 |false=>exact isTrue_or_nil e
 |true=>exact e
theorem aay (ha:PT X a tA)(hb:PW X (.BoolOp .And (b::dg) pos) tB'):PW X (.BoolOp .And (a::b::dg) pos) (amh tA tB'):=by
 intro wh ah s σ H Q I h;refine isTrue_and (cP (ha ah s σ H _ I h) λc s1 ⟨H1,I1,q1⟩=>?_)
 cases c with
 |true=>exact hb wh ah s1 σ H1 Q I1 q1
 |false=>exact⟨H1,I1,q1⟩
theorem agS (ha:PT X a tA)(hb:PW X (.BoolOp .Or (b::dg) pos) tB'):PW X (.BoolOp .Or (a::b::dg) pos) (tOr tA tB'):=by
 intro wh ah s σ H Q I h;refine isTrue_or (cP (ha ah s σ H _ I h) λc s1 ⟨H1,I1,q1⟩=>?_)
 cases c with
 |true=>exact⟨H1,I1,q1⟩
 |false=>exact hb wh ah s1 σ H1 Q I1 q1
theorem aaz (ha:PT X a tA):PT X (.UnaryOp .Not a pos) (ami tA):=by
 intro ah s σ H Q I h;exact isTrue_not (ha ah s σ H (λc H1=>Q (!c) H1) I h)
def agT (ta tb:TE):TE:=λσ H Q=>ta σ H λx H1=>∃c,x = .bl c/\if c=true then tb σ H1 Q else Q (.bl false) H1
def amj (ta tb:TE):TE:=λσ H Q=>ta σ H λx H1=>∃c,x = .bl c/\if c=true then Q (.bl true) H1 else tb σ H1 Q
def agU (ta:TE):TE:=λσ H Q=>ta σ H λx H1=>∃c,x = .bl c/\Q (.bl (!c)) H1
theorem aaA {op}(h:PE X a t):PE X (.BoolOp op [a] pos) t:=λah s σ H Q I hw=>BoolOp_one (h ah s σ H Q I hw)
theorem aaB (ha:PE X a ta)(hb:PE X (.BoolOp .And (b::dg) pos) tb):PE X (.BoolOp .And (a::b::dg) pos) (agT ta tb):=by
 intro ah s σ H Q I h;refine BoolOp_and (cP (ha ah s σ H _ I h) λv s1 ⟨x,H1,I1,r1,q1⟩=>?_)
 obtain⟨c,rfl,q1⟩:=q1;cases r1;refine zbh ?_
 cases c with
 |true=>exact hb ah s1 σ H1 Q I1 q1
 |false=>exact⟨.bl false,H1,I1,rfl,q1⟩
theorem agV (ha:PE X a ta)(hb:PE X (.BoolOp .Or (b::dg) pos) tb):PE X (.BoolOp .Or (a::b::dg) pos) (amj ta tb):=by
 intro ah s σ H Q I h;refine BoolOp_or (cP (ha ah s σ H _ I h) λv s1 ⟨x,H1,I1,r1,q1⟩=>?_)
 obtain⟨c,rfl,q1⟩:=q1;cases r1;refine zbh ?_
 cases c with
 |false=>exact hb ah s1 σ H1 Q I1 q1
 |true=>exact⟨.bl true,H1,I1,rfl,q1⟩
theorem aaC (ha:PE X a ta):PE X (.UnaryOp .Not a pos) (agU ta):=by
 intro ah s σ H Q I h;refine UnaryOp_ (cP (ha ah s σ H _ I h) λv s1 ⟨x,H1,I1,r1,q1⟩=>?_)
 obtain⟨c,rfl,q1⟩:=q1;cases r1;exact not_of (zbh ⟨.bl (!c),H1,I1,rfl,q1⟩)
def tIf (t:TT)(ta tb:TE):TE:=λσ H Q=>t σ H λc H1=>if c=true then ta σ H1 Q else tb σ H1 Q
theorem L7 (hc:PT X c tA)(ha:PE X a ta)(hb:PE X b tb):PE X (.IfExp c a b pos) (tIf tA ta tb):=by
 intro ah s σ H Q I h;refine wpAny_IfExp (cP (hc ah s σ H _ I h) λd s1 ⟨H1,I1,q1⟩=>?_)
 cases d with
 |true=>exact ha ah s1 σ H1 Q I1 q1
 |false=>exact hb ah s1 σ H1 Q I1 q1
end
def jy (K:PySem.W.Frag)(H:Hp)(a:Addr)(xs:List V):Prop:=
 Rd H a (.bD xs) \/
  ∃(o:Obj) (aJ:Array Value) (n:Nat),K.lookup a=some o/\o.cls = .type "list" /\ o.dict=none/\o.data = .seq aJ n/\aJ.size<=sizeLine/\bE xs aJ.toList
def pA (K:PySem.W.Frag)(H:Hp)(a:Addr)(xs:List V):Prop:=
 Rd H a (.gn xs) \/
  ∃(o:Obj) (aJ:Array Value) (n:Nat),K.lookup a=some o/\o.cls = .type "tuple" /\ o.data = .seq aJ n/\aJ.size<=sizeLine/\bE xs aJ.toList
noncomputable def amk:Value->Option V
 |.none=>some .bq
 |.bool b=>some (.bl b)
 |.int i _=>some (.int i)
 |.str x _=>some (.str x)
 |.bytes b _=>some (.LD b)
 |.float b _=>some (.flt b)
 |.ref a=>some (.ref a)
 |.type n=>some (.ty n)
 |_=>none
theorem bI.abs (r:bI x u):amk u=some x:=by
 cases x with
 |bq=>cases r;rfl
 |bl _=>cases r;rfl
 |int _=>obtain⟨t,rfl⟩:=r;rfl
 |str _=>obtain⟨t,rfl⟩:=r;rfl
 |LD _=>obtain⟨t,rfl⟩:=r;rfl
 |flt _=>obtain⟨t,rfl⟩:=r;rfl
 |ref _=>cases r;rfl
 |ty _=>cases r;rfl
theorem bI.inj (r:bI x u)(q:bI y u):x=y:=zaw (r.abs.symm.trans q.abs)
theorem bE.inj:∀{xs ys:List V} {us:List Value},bE xs us->bE ys us->xs=ys:=by
 intro xs ys us h;induction h generalizing ys with|nil=>(intro g;cases g;rfl)|cons r t ih =>
  intro g;cases g with|cons r' t'=>rw[r.inj r',ih t']
theorem jy.of {K:PySem.W.Frag}(h:H a=some (.bD xs)):jy K H a xs:=.inl (.inl h)
theorem pA.of {K:PySem.W.Frag}(h:H a=some (.gn xs)):pA K H a xs:=.inl (.inl h)
theorem aH.list (I:aH X ah σ H s)(h:jy X.K H a xs):∃aJ:List Value,bE xs aJ/\PlainL s.heap a aJ.toArray/\xs.length<=sizeLine:=by
 rcases h with h|⟨o,aJ,n,hk,hc,hd,hs,hz,r⟩
 ·obtain⟨z,aJ,n,r,e⟩:=h.ok I.bZ
  exact⟨aJ,r,⟨_,n,e,rfl,rfl,rfl⟩,z⟩
 ·refine⟨aJ.toList,r,⟨o,n,I.kT a o hk,hc,hd,by simpa using hs⟩,?_⟩
  have e:=r.length;simp only[zaW] at e;omega
theorem aH.fY (I:aH X ah σ H s)(h:pA X.K H a xs):∃aJ:List Value,bE xs aJ/\IsTup s.heap a aJ.toArray/\xs.length<=sizeLine:=by
 rcases h with h|⟨o,aJ,n,hk,hc,hs,hz,r⟩
 ·obtain⟨z,aJ,r,p⟩:=h.ok I.bZ
  exact⟨aJ,r,p,z⟩
 ·refine⟨aJ.toList,r,⟨o,I.kT a o hk,hc,n,by simpa using hs⟩,?_⟩
  have e:=r.length;simp only[zaW] at e;omega
theorem aH.BS (I:aH X ah σ H s)(h:jy X.K H a xs)(h':jy X.K H a ys):xs=ys:=by
 obtain⟨aJ,r,⟨o,n,e,_,_,d⟩,_⟩:=I.list h
 obtain⟨its',r',⟨o',n',e',_,_,d'⟩,_⟩:=I.list h'
 rw[e] at e';cases e'
 rw[d] at d';injection d' with d1 _
 have:aJ=its':=by simpa using congrArg Array.toList d1
 subst this;exact r.inj r'
theorem aH.JA (I:aH X ah σ H s)(h:pA X.K H a xs)(h':pA X.K H a ys):xs=ys:=by
 obtain⟨aJ,r,⟨o,e,_,n,d⟩,_⟩:=I.fY h
 obtain⟨its',r',⟨o',e',_,n',d'⟩,_⟩:=I.fY h'
 rw[e] at e';cases e'
 rw[d] at d';injection d' with d1 _
 have:aJ=its':=by simpa using congrArg Array.toList d1
 subst this;exact r.inj r'
noncomputable abbrev Cx.sE (X:Cx)(E:Value->Shared->Prop):Cx:={X with xe:=E}
noncomputable abbrev Cx.Et (X:Cx):Cx:=X.sE λ_ _=>False
theorem Cx.Ok.sE {X:Cx}(ok:X.Ok)(E:Value->Shared->Prop):(X.sE E).Ok:=
 ⟨ok.tK,ok.kind,ok.tH,ok.WH,ok.above,ok.inj,ok.has,ok.cab,ok.hd,ok.frames,ok.stk,ok.exf,ok.bs,ok.RJ,ok.jA,ok.EL,ok.mD,ok.L1⟩
theorem Cx.Ok.gp {X:Cx}{E:Value->Shared->Prop}(ok:(X.sE E).Ok):X.Ok:=
 ⟨ok.tK,ok.kind,ok.tH,ok.WH,ok.above,ok.inj,ok.has,ok.cab,ok.hd,ok.frames,ok.stk,ok.exf,ok.bs,ok.RJ,ok.jA,ok.EL,ok.mD,ok.L1⟩
theorem aH.sE (I:aH X ah σ H s)(E:Value->Shared->Prop):aH (X.sE E) ah σ H s:=⟨I.ok.sE E,I.os,I.iX,I.base,I.BL,I.cell,I.free,I.lZ,I.Es,I.bZ,I.len⟩
theorem aH.gp (I:aH (X.sE E) ah σ H s):aH X ah σ H s:=⟨I.ok.gp,I.os,I.iX,I.base,I.BL,I.cell,I.free,I.lZ,I.Es,I.bZ,I.len⟩
theorem SP.gp (h:SP (X.sE E) ah D f s'):SP X ah D f s':=by
 cases f with
 |next=>obtain⟨eV,H',I,q⟩:=h;exact⟨eV,H',I.gp,q⟩
 |brk=>obtain⟨eV,H',I,q⟩:=h;exact⟨eV,H',I.gp,q⟩
 |cont=>obtain⟨eV,H',I,q⟩:=h;exact⟨eV,H',I.gp,q⟩
 |ret u=>obtain⟨v,eV,H',I,r,q⟩:=h;exact⟨v,eV,H',I.gp,r,q⟩
theorem yf.Et {st:List Stmt}{t:TS}(h:yf X.Et st t):yf X st t:=λah s σ H D I hw =>
 zaO (h ah s σ H D (I.sE _) hw) (λ_ _ q=>q.gp) λ_ _ z=>False.elim z
section
variable {X:Cx}{st:Stmt}{dg:List Stmt}{t u:TS}{e:Expr}{te:TE}{pos:Pos}
def agW:TS:=λD σ H=>D.nx σ H
def aml (t u:TS):TS:=λD σ H=>t {D with nx:=u D} σ H
theorem Sf:yf X [] agW:=λ_ _ σ H _ I h=>zda ⟨σ,H,I,h⟩
theorem tN (h1:PS X st t)(h2:yf X dg u):yf X (st::dg) (aml t u):=by
 intro ah s σ H D I h;refine zel (cP (h1 ah s σ H {D with nx:=u D} I h) λf s1 q=>?_)
 cases f with
 |next =>
  obtain⟨eV,H',I',q⟩:=q;exact h2 ah s1 eV H' D I' q
 |ret v=>exact q
 |brk=>exact q
 |cont=>exact q
theorem G4 (h1:PS X st t):yf X [st] t:=by
 intro ah s σ H D I h;refine zel (cP (h1 ah s σ H D I h) λf s1 q=>?_)
 cases f with
 |next=>exact zda q
 |ret v=>exact q
 |brk=>exact q
 |cont=>exact q
def agX:TS:=λD σ H=>D.ct σ H
theorem BU:PS X (.Continue pos) agX:=λ_ _ σ H _ I h=>wpAny_Continue ⟨σ,H,I,h⟩
theorem aH.quiet (I:aH X ah σ H s):interactive X.env=false:=by simp[interactive,I.ok.kind]
def agY (te:TE):TS:=λD σ H=>te σ H λ_ H1=>D.nx σ H1
theorem G5 (he:PE X e te)(hs:swapsWith e none pos.line X.env=pure false:=by rfl):PS X (.Expr e pos) (agY te):=by
 intro ah s σ H D I h;exact wpAny_Expr_any (cP (he ah s σ H _ I h) λv s1 ⟨x,H1,I1,r1,q1⟩=>⟨σ,H1,I1,q1⟩) I.quiet hs
def amm (te:TE):TS:=λD σ H=>te σ H D.rt
theorem aaD (he:PE X e te):PS X (.Return (some e) pos) (amm te):=by
 intro ah s σ H D I h;exact wpAny_Return_some (cP (he ah s σ H _ I h) λv s1 ⟨x,H1,I1,r1,q1⟩=>⟨x,σ,H1,I1,r1,q1⟩)
def amn (c:TT)(t u:TS):TS:=λD σ H=>c σ H λb H1=>if b=true then t D σ H1 else u D σ H1
theorem agZ (hc:PT X c tc)(ha:yf X a t)(hb:yf X b u):PS X (.If c a b pos) (amn tc t u):=by
 intro ah s σ H D I h;refine wpAny_If (cP (hc ah s σ H _ I h) λd s1 ⟨H1,I1,q1⟩=>?_)
 cases d with
 |true=>exact ha ah s1 σ H1 D I1 q1
 |false=>exact hb ah s1 σ H1 D I1 q1
end
noncomputable abbrev TG:=V->St->Hp->(St->Hp->Prop)->Prop
noncomputable abbrev WK:=List V->St->Hp->(St->Hp->Prop)->Prop
def PG (X:Cx)(target:Expr)(t:TG):Prop:=
 ∀(ah:List (Addr×Obj)) (s:Shared) (σ:St) (H:Hp) (v:V) (u:Value) (Q:St->Hp->Prop),aH X ah σ H s->bI v u->t v σ H Q ->
  wpAny (model X.prog X.w) X.A (assign target X.env u) (λ_ s'=>∃eV H',aH X ah eV H' s'/\Q eV H') X.xe s
def RN (X:Cx)(ts:List Expr)(t:WK):Prop:=
 ∀(ah:List (Addr×Obj)) (s:Shared) (σ:St) (H:Hp) (vs:List V) (us:List Value) (Q:St->Hp->Prop),aH X ah σ H s->bE vs us->t vs σ H Q ->
  wpAny (model X.prog X.w) X.A (assignInOrder ((assignEach ts X.env).map (·.2)) us) (λ_ s'=>∃eV H',aH X ah eV H' s'/\Q eV H') X.xe s
def G6 (i:Nat):TG:=λv σ H Q=>Q (σ.set i (some v)) H
theorem Sg (hN:X.N.Nodup)(hi:X.N[i]? = some x)(hx:WI X.env.scope x)(hf:X.fn x=true\/X.env.scope.names.lookup x=some .local:=by first|exact .inl rfl|exact .inr rfl|assumption):PG X (.Name x pos) (G6 i):=by
 intro ah s σ H v u Q I r h;exact wpAny_assign_Name (pq I hN hi hx r (λs' I'=>⟨_,H,I',h⟩) hf)
noncomputable def amo:WK:=λvs σ H Q=>vs=[]/\Q σ H
noncomputable def ag0 (t:TG)(u:WK):WK:=λvs σ H Q=>∃v r,vs=v::r/\t v σ H λeV H'=>u r eV H' Q
theorem Sh:RN X [] amo:=by
 intro ah s σ H vs us Q I r h;obtain⟨e,h⟩:=h;subst e;cases r;exact assignInOrder_nil ⟨σ,H,I,h⟩
theorem L8 (h1:PG X e t)(h2:RN X es u)
  (hs:(assignEach (e::es) X.env).map (·.2)=assign e X.env::(assignEach es X.env).map (·.2):=by rfl):RN X (e::es) (ag0 t u):=by
 intro ah s σ H vs us Q I r h;obtain⟨v,vr,e1,h⟩:=h;subst e1;cases r with
 |cons r rr =>
  rw[hs];refine zdP (cP (h1 ah s σ H _ _ _ I r h) λ_ s1 ⟨σ1,H1,I1,q1⟩=>?_)
  exact h2 ah s1 σ1 H1 _ _ Q I1 rr q1
def amq (K:PySem.W.Frag)(n:Nat)(t:WK):TG:=λv σ H Q=>∃a xs,v = .ref a/\pA K H a xs/\xs.length=n/\t xs σ H Q
theorem aaE (hc:X.d9=true)(h:RN X es t)
  (hn:(assignEach es X.env).length=n:=by rfl) (om:(assignEach es X.env).findIdx? (·.1)=none:=by rfl):PG X (.Tuple es k pos) (amq X.K n t):=by
 intro ah s σ H v u Q I r hw;obtain⟨a,xs,e1,hq,hl,hw⟩:=hw;subst e1;cases r;obtain⟨aJ,rv,ht,hz⟩:=I.fY hq;refine assign_Tuple_tuple (I.ok.hd hc) ht (by simp[hn,<-hl,rv.length]) om λh' hx=>?_
 have I1:aH X ah σ H {s with heap:=h' }:=I.eU (t':=s.toks) λb o e=>hx b o (zao (zaj e)) e
 exact h ah _ σ H xs _ Q I1 (by simpa using rv) hw
def Si (te:TE)(g:TG):TS:=λD σ H=>te σ H λx H1=>g x σ H1 D.nx
theorem aaF (he:PE X e te)(hg:PG X tg g)(hs:swapsWithSole [tg] e pos.line X.env=pure false:=by rfl)(hw:swappedStores [tg] e X.env=pure none:=by rfl)
  (h1:(assignEach [tg] X.env).map (·.2)=[assign tg X.env]:=by rfl):PS X (.Assign [tg] e pos) (Si te g):=by
 intro ah s σ H D I h;refine wpAny_Assign_stores (cP (he ah s σ H _ I h) λv s1 ⟨x,H1,I1,r1,q1⟩=>?_) hs hw
 rw[h1];exact cP (hg ah s1 σ H1 x v _ I1 r1 q1) λ_ s2 q=>q
theorem aaG (hN:X.N.Nodup)(hi:X.N[i]? = some x)(hx:WI X.env.scope x)(he:PE X e te)(hs:swapsWith e (some (.Name x jB)) pos.line X.env=pure false:=by rfl)(hf:X.fn x=true\/X.env.scope.names.lookup x=some .local:=by first|exact .inl rfl|exact .inr rfl|assumption):
  PS X (.Assign [.Name x jB] e pos) (Si te (G6 i)):=by
 intro ah s σ H D I h;refine wpAny_Assign_Name (cP (he ah s σ H _ I h) λv s1 ⟨y,H1,I1,r1,q1⟩=>?_) hs
 exact pq I1 hN hi hx r1 (λs2 I2=>⟨_,H1,I2,q1⟩) hf
def amr (i j:Nat)(ta:TA):TS:=λD σ H=>ta σ H λvs H1=>∃v w,vs=[v,w]/\D.nx ((σ.set i (some v)).set j (some w)) H1
theorem aaH {kt k2 pt2}(hc:X.d9=true)(hN:X.N.Nodup)(hi:X.N[i]? = some x)(hj:X.N[j]? = some y)(hij:i≠j)
  (hx:X.env.scope.names.lookup x=some .local) (hy:X.env.scope.names.lookup y=some .local) (ha:PA X [a,b] ta)
  (hw:swappedStores [.Tuple [.Name x px,.Name y py] kt pt] (.Tuple [a,b] k2 pt2) X.env=pure (some [x,y]))
  (hs:swapsWithSole [.Tuple [.Name x px,.Name y py] kt pt] (.Tuple [a,b] k2 pt2) pos.line X.env=pure false:=by rfl):
  PS X (.Assign [.Tuple [.Name x px,.Name y py] kt pt] (.Tuple [a,b] k2 pt2) pos) (amr i j ta):=by
 intro ah s σ H D I h;rw[exec_Assign_arm];refine zaa (zcx ?_)
 rw[hs];refine zaa (zac ?_)
 rw[if_neg (by decide)]
 refine zaa (Tuple_ (cP (ha _ ah s σ H _ I h) λus s1 ⟨vs,H1,I1,r1,q1⟩=>?_))
 obtain⟨v,w,e1,q1⟩:=q1;subst e1;obtain⟨u1,u2,rfl,rv,z9⟩:∃u1 u2,us=[u1,u2]/\bI v u1/\bI w u2:=by
  cases r1 with
  |cons p q =>
   cases q with
   |cons p' q' =>
    cases q';exact⟨_,_,rfl,p,p'⟩
 refine zaB ?_ (by show 2<=sizeLine;decide)
 have I2:aH X ah σ H1 { s1 with heap:=s1.heap.push { cls:=.type "tuple",data:=.seq [u1,u2].toArray} }:=I1.eU (t':=s1.toks) λb o e=>zab _ e
 rw[hw];refine zaa (zac ?_)
 show wpAny (model X.prog X.w) X.A (do rule "assign.swapped-stores";let items <-unpackItems (.ref s1.heap.objs.size) 2 none;assignInOrder [λv=>bindName X.env y v,λv=>bindName X.env x v] items.reverse;pure Flow.next) _ _ _
 refine zaa (zcA (zaa (unpackItems_tuple (items:=#[u1,u2]) (I.ok.hd hc) (IsTup.new s1.heap _) λh' RO=>?_)))
 have I3:=I2.eU (h':=h') (t':=s1.toks) λb o e=>RO b o (zao (zaj e)) e
 show wpAny _ _ (assignInOrder [λv=>bindName X.env y v,λv=>bindName X.env x v] [u2,u1] >>= λ_=>pure Flow.next) _ _ _
 refine zaa (zdP (wpAny_bindName (pq I3 hN hj (.inl hy) z9 (λs2 I4=>?_) (.inr hy))))
 refine zdP (wpAny_bindName (pq I4 hN hi (.inl hx) rv (λs3 I5=>assignInOrder_nil (zac ?_)) (.inr hx)))
 rw[zdq _ _ (zbe hij)] at I5;exact⟨_,H1,I5,q1⟩
structure It where
 go:Nat->Hp->Prop
 yld:Nat->Hp->V->Hp->Prop
 stop:Nat->Hp->Prop
def qI (X:Cx)(ah:List (Addr×Obj))(H:Hp)(b:Addr):Prop:=
 H b=none/\b≠X.env.locals/\b∉X.fs/\(b∈X.ex\/X.s₀.heap.objs.size<=b)/\(∀x c,X.env.cells.lookup x=some c->c≠b)/\∀p∈X.pn++ah,p.1≠b
theorem aH.L_ (I:aH X ah σ H s)(hb:s.heap.objs.size<=b)(hn:H' b=none):qI X ah H' b:=by
 refine⟨hn,zbv (zap I.lt hb),I.amd hb,.inr (zah I.sz hb),λx c e z=>?_,λp hp z=>?_⟩
 ·obtain⟨v,q⟩:=I.cell x c e
  exact absurd (zap q.lt (by rw[z];exact hb)) (zaY _)
 ·exact absurd (zap (zaj (I.Es p hp).1) (by rw[z];exact hb)) (zaY _)
structure JB (P:Program) (w:World) (K:PySem.W.Frag) (tg:Expr) (J:It) (fp:List Addr) (it:Addr) (tn:Nat->Heap->Prop):Prop where
 mem:it∈fp
 j8:∀i h,tn i h->∀b∈fp,∃o,h.get? b=some o/\∀v,o.data ≠ .cell v
 keep:∀i h h',tn i h->(∀b∈fp,∀o,h.get? b=some o->h'.get? b=some o)->tn i h'
 item:∀(X:Cx),X.prog=P->X.w=w->X.K=K->X.d9=true->∀(i:Nat) (ah:List (Addr×Obj)) (s:Shared) (σ:St) (H:Hp) (E:Value->Shared->Prop),aH X ah σ H s->(∀b∈fp,qI X ah H b)->tn i s.heap->J.go i H ->
  wpAny (model P w) X.A (pyNext (.ref it)) (λr s1=>∃u,r=some u /\
   wpAny (model P w) X.A (letOwnedTupleGo tg (.ref it) u) (λ_ s2=>∃x H',aH X ah σ H' s2/\bI x u/\J.yld i H x H'/\tn (i+1) s2.heap/\∀b∈fp,H' b=none) E s1) E s
 done:∀(X:Cx),X.prog=P->X.w=w->X.K=K->X.d9=true->∀(i:Nat) (ah:List (Addr×Obj)) (s:Shared) (σ:St) (H:Hp) (E:Value->Shared->Prop),aH X ah σ H s->(∀b∈fp,qI X ah H b)->tn i s.heap->J.stop i H ->
  wpAny (model P w) X.A (pyNext (.ref it)) (λr s1=>r=none/\aH X ah σ H s1) E s
 self:∀(A:Around) (i:Nat) (s:Shared) (Q:Value->Shared->Prop) (E:Value->Shared->Prop),tn i s.heap->Q (.ref it) s->wpAny (model P w) A (pyIter (.ref it)) Q E s
noncomputable abbrev TI:=St->Hp->(It->Hp->Prop)->Prop
def PIE (X:Cx)(ah:List (Addr×Obj))(σ:St)(tg:Expr)(R:It->Hp->Prop)(itv:Value)(s2:Shared):Prop:=
 ∃(it:Addr) (fp:List Addr) (tn:Nat->Heap->Prop) (J:It) (H':Hp),itv = .ref it/\aH X ah σ H' s2/\JB X.prog X.w X.K tg J fp it tn/\tn 0 s2.heap/\(∀b∈fp,qI X ah H' b)/\R J H'
def PI (X:Cx)(tg dS:Expr)(wi:TI):Prop:=
 ∀(ah:List (Addr×Obj)) (s:Shared) (σ:St) (H:Hp) (R:It->Hp->Prop),aH X ah σ H s->wi σ H R ->
  wpAny (model X.prog X.w) X.A (eval dS X.env) (λv s1=>wpAny (model X.prog X.w) X.A (pyIter v) (PIE X ah σ tg R) X.xe s1) X.xe s
theorem Ma (ho:s.heap.get? it=some o)(hc:o.cls = .type n)(hd:o.data = .fields vs)
    (hn:["enumerate","zip","dict_itemiterator","dict_reverseitemiterator","odict_iterator","itertools.zip_longest","itertools.pairwise"].contains n=false) (hQ:Q () s):wpAny M A (letOwnedTupleGo tg (.ref it) u) Q E s:=by
  unfold letOwnedTupleGo;cases tg<;>first
    |exact zac hQ
    | (cases u<;>first
        |exact zac hQ
        | (refine zaa (wpAny_load ho ?_)
           rw[hc,hd];show wpAny M A (if (["enumerate","zip","dict_itemiterator","dict_reverseitemiterator","odict_iterator","itertools.zip_longest","itertools.pairwise"].contains n && vs[0]? == some (rawInt _))=true then _ else _) Q E s
           rw[if_neg (by intro h;rw[hn,zdJ] at h;cases h)]
           exact zac hQ))
noncomputable def Itl (K:PySem.W.Frag)(a:Addr):It:=
 ⟨λi H=>∃xs x,jy K H a xs/\xs[i]? = some x,λi H x H'=>H'=H/\∀xs,jy K H a xs->xs[i]? = some x,λi H=>∃xs,jy K H a xs/\xs.length<=i⟩
noncomputable def Itr (lo:Int)(n:Nat):It:=⟨λi _=>i<n,λi H x H'=>H'=H/\x = .int (lo+i),λi _=>n<=i⟩
theorem JC {P:Program}{w:World}{K:PySem.W.Frag}{tg:Expr}(a it:Addr):JB P w K tg (Itl K a) [it] it (λi h=>h.IsListIter it a i) where
 mem:=by simp
 j8:=λi h st b hb=>by
  have e:b=it:=by simpa using hb
  subst e;obtain⟨o,e,c,d⟩:=st;exact⟨o,e,λv z=>by rw[d] at z;cases z⟩
 keep:=λi h h' st k=>st.at λo e=>k it (by simp) o e
 item:=by
  intro X hP hw hK hc i ah s σ H E I hf st hg;subst hP hw hK;obtain⟨xs,x,hq,hx⟩:=hg;obtain⟨aJ,rv,p,hz⟩:=I.list hq;obtain⟨u,hu,ru⟩:=rv.get hx;obtain⟨f0,f1,f2,f3,f4,f5⟩:=hf it (by simp)
  refine wpAny_pyNext_list_item st p.isList (x:=u) (by simpa using hu) λh' G7 sb=>?_
  have I1:aH X ah σ H {s with heap:=h' }:=I.oM (t':=s.toks) (λb o hb e=>(sb.2 b hb).trans e) f0 f1 f3 f4 f5
  obtain⟨o,e,c,d⟩:=id G7;exact⟨u,rfl,Ma (s:={s with heap:=h' }) e c d (by decide) ⟨x,H,I1,ru,⟨rfl,λys hy=>by rw[I.BS hy hq];exact hx⟩,G7,λb hb=>(hf b hb).1⟩⟩
 done:=by
  intro X hP hw hK hc i ah s σ H E I hf st hg;subst hP hw hK;obtain⟨xs,hq,hx⟩:=hg;obtain⟨aJ,rv,p,hz⟩:=I.list hq;obtain⟨f0,f1,f2,f3,f4,f5⟩:=hf it (by simp)
  have hl:=rv.length;exact wpAny_pyNext_list_end (I.ok.hd hc) st p.isList (by simp;omega) λh' eb=>⟨rfl,I.oM (t':=s.toks) (λb o hb e=>eb b o hb e) f0 f1 f3 f4 f5⟩
 self:=λ_ _ _ _ _ st h=>wpAny_pyIter_listiter st h
theorem EN {P:Program}{w:World}{K:PySem.W.Frag}{tg:Expr}(it:Addr)(lo:Int)(n:Nat):JB P w K tg (Itr lo n) [it] it (λi h=>IsRangeIter h it (lo+(i:Nat) * 1) ((n:Int) - (i:Nat)) 1) where
 mem:=by simp
 j8:=λi h st b hb=>by
  have e:b=it:=by simpa using hb
  subst e;exact⟨_,st,λv z=>by
   have z':Data.fields _=Data.cell v:=z
   cases z'⟩
 keep:=λi h h' st k=>k it (by simp) _ st
 item:=by
  intro X hP hw hK hc i ah s σ H E I hf st hg;subst hP hw hK;obtain⟨f0,f1,f2,f3,f4,f5⟩:=hf it (by simp)
  have W:=Walks.range (prog:=X.prog) (w:=X.w) (I.ok.hd hc) it lo 1 n
  refine W.item i s _ _ hg st λv h' tk hv G7 kk=>?_
  obtain⟨t,rfl⟩:=hv;have I1:aH X ah σ H {s with heap:=h',toks:=tk}:=I.oM (λb o hb e=>kk b o (by simpa using hb) e) f0 f1 f3 f4 f5
  refine⟨_,rfl,Ma (s:={s with heap:=h',toks:=tk}) (n:= "range_iterator") G7 rfl rfl (by decide) ⟨.int (lo+i),H,I1,⟨t,?_⟩,⟨rfl,rfl⟩,G7,λb hb=>(hf b hb).1⟩⟩
  rw[Int.mul_one]
 done:=by
  intro X hP hw hK hc i ah s σ H E I hf st hg;subst hP hw hK;obtain⟨f0,f1,f2,f3,f4,f5⟩:=hf it (by simp)
  exact wpAny_pyNext_range_end (I.ok.hd hc) st (by have:n<=i:=hg;omega) λh' eb=>⟨rfl,I.oM (t':=s.toks) (λb o hb e=>eb b o hb e) f0 f1 f3 f4 f5⟩
 self:=λ_ _ _ _ _ st h=>wpAny_pyIter_rangeiter st h
def ag2 (K:PySem.W.Frag)(tl:TE):TI:=λσ H R=>tl σ H λx H1=>∃a,x = .ref a/\(∃xs,jy K H1 a xs)/\R (Itl K a) H1
theorem Sj {l:Expr}{tl:TE}(hl:PE X l tl):PI X tg l (ag2 X.K tl):=by
 intro ah s σ H R I h;refine cP (hl ah s σ H _ I h) λv s1 ⟨x,H1,I1,r1,q1⟩=>?_
 obtain⟨a,e,⟨xs,hq⟩,q⟩:=q1
 subst e;cases r1;obtain⟨aJ,rv,p,hz⟩:=I1.list hq;refine zbS p.isList ?_
 refine⟨s1.heap.objs.size,[s1.heap.objs.size],_,_,H1,rfl,I1.eU (t':=s1.toks) λb o e=>zab _ e,JC a _,⟨_,zak _ rfl,rfl,rfl⟩,λb hb=>?_,q⟩
 have e:b=s1.heap.objs.size:=by simpa using hb
 subst e;exact I1.L_ (zaf _) (I1.bZ.fresh (zaf _))
theorem Mb {ah:List (Addr×Obj)}{σ:St}{H:Hp}{s:Shared}{R:It->Hp->Prop}{E:Value->Shared->Prop}{lo hi:Int}{t u v:Tok}{tk:Nat}(I:aH X ah σ H s)(h1: -(2 ^ 62)<=lo)(h2:lo<2 ^ 62)(h3: -(2 ^ 62)<=hi)(h4:hi<2 ^ 62)
  (q:R (Itr lo (hi - lo).toNat) H):wpAny (model X.prog X.w) X.A (pyIter (.ref s.heap.objs.size)) (PIE X ah σ tg R) E { s with heap:=s.heap.push { cls:=.type "range",data:=.fields #[.int lo t,.int hi u,.int 1 v]},toks:=tk}:=by
 refine wpAny_pyIter_range (IsRange.new ..) (small_one h1 h2 h3 h4) ?_
 have I1:aH X ah σ H { s with heap:=s.heap.push { cls:=.type "range",data:=.fields #[.int lo t,.int hi u,.int 1 v]},toks:=tk}:=I.eU λb o e=>zab _ e
 refine⟨(s.heap.push { cls:=.type "range",data:=.fields #[.int lo t,.int hi u,.int 1 v]}).objs.size,[(s.heap.push { cls:=.type "range",data:=.fields #[.int lo t,.int hi u,.int 1 v]}).objs.size],_,_,H,rfl,
  I1.eU (t':=tk) λb o e=>zab _ e,EN _ lo (hi - lo).toNat,?_,λb hb=>?_,q⟩
 ·have e1:lo+((0:Nat):Int) * 1=lo:=by simp
  have e2:(((hi - lo).toNat:Nat):Int) - ((0:Nat):Int)=Builtin.Range.rangeSize lo hi 1:=by rw[rangeSize_one];split<;>omega
  show IsRangeIter _ _ (lo+((0:Nat):Int) * 1) ((((hi - lo).toNat:Nat):Int) - ((0:Nat):Int)) 1
  rw[e1,e2];exact zak _ rfl
 ·have e:b=(s.heap.push { cls:=.type "range",data:=.fields #[.int lo t,.int hi u,.int 1 v]}).objs.size:=by simpa using hb
  subst e;exact I1.L_ (zaf _) (I1.bZ.fresh (zaf _))
def ag3 (ta:TA):TI:=λσ H R=>ta σ H λvs H1=>∃j:Int,vs=[.int j] /\ -(2 ^ 62)<=j/\j<2 ^ 62/\R (Itr 0 j.toNat) H1
theorem JD {a:Expr}{ta:TA}{p pos:Pos}(hg:Gl X "range")(hm:X.mg "range"=none)(ha:PA X [a] ta)(hs:starEach [a] X.env=[(false,eval a X.env)]:=by rfl):PI X tg (.Call (.Name "range" p) [a] [] pos) (ag3 ta):=by
 intro ah s σ H R I h;refine Call_ (tM I hg hm boot_range (zcN (cP (ha pos ah s σ H _ I h) λus s1 ⟨vs,H1,I1,r1,q1⟩=>?_) hs rfl))
 obtain⟨j,e,q1,q2,q⟩:=q1;subst e;cases r1 with
 |cons r rr =>
  cases rr;obtain⟨t,rfl⟩:=r;exact call_range_1 (Mb I1 (by omega) (by omega) q1 q2 (by simpa using q))
def amu (wi:TI)(g:TG)(tb:TS):TS:=λD σ H=>wi σ H λJ H1=>∃W:Nat->Nat->St->Hp->Prop,(∃m,W 0 m σ H1)/\∀i m σ H,W i m σ H ->
 (J.stop i H/\D.nx σ H)\/(J.go i H/\∃N:St->Hp->Prop,(∀eV H',N eV H'->∃m',m' < m/\W (i+1) m' eV H')/\∀x H',J.yld i H x H'->g x σ H' λBD H2=>tb {D with nx:=N,ct:=N,bk:=D.nx} BD H2)
noncomputable def tO (fp:List Addr)(h:Heap):List (Addr×Obj):=fp.filterMap λb=>(h.get? b).map λo=>(b,o)
theorem kW (hb:b∈fp)(e:h.get? b=some o):(b,o)∈tO fp h:=List.mem_filterMap.mpr ⟨b,hb,by rw[e];rfl⟩
theorem JE (hp:p∈tO fp h):p.1∈fp/\h.get? p.1=some p.2:=by
 obtain⟨b,hb,e⟩:=List.mem_filterMap.mp hp;cases q:h.get? b with
 |none=>rw[q] at e;cases e
 |some o =>
  rw[q] at e;have e':(b,o)=p:=zaw e
  subst e';exact⟨hb,q⟩
theorem aH.Mc (I:aH X ah σ H s)(hf:∀b∈fp,qI X ah H b)(ho:∀b∈fp,∃o,s.heap.get? b=some o/\∀v,o.data ≠ .cell v):aH X (ah++tO fp s.heap) σ H s:=
 I.G2 λp hp=>(zbt.mp hp).elim (λz=>I.Es p (zaP _ z)) λz=>by
  obtain⟨hb,e⟩:=JE z;obtain⟨f0,f1,f2,_⟩:=hf p.1 hb;obtain⟨o,e',d⟩:=ho p.1 hb;rw[e] at e';cases e'
  exact⟨e,f0,f1,f2,d⟩
theorem aH.pB (I:aH X (ah++pl) σ H s):aH X ah σ H s:=I.G2 λp hp=>I.Es p (zaP _ (zcn _ hp))
theorem aaJ (hp:PassesOwn (model X.prog X.w) X.A X.env X.xe)(hc:X.d9=true)(hi:PI X tg dS wi)(hg:PG X tg g)(hb:yf X body tb)
  (hs:∀x,foldedSetIterable dS X.env x=pure x:=by intro _;rfl):PS X (.For tg dS body [] pos) (amu wi g tb):=by
 intro ah s σ H D I h;refine wpAny_For (cP (hi ah s σ H _ I h) λv s1 h1=>cP h1 λitv s2 h2=>?_) hs
 obtain⟨it,fp,tn,J,H2,e,I2,T,st2,f2,W,⟨m0,w0⟩,Me⟩:=h2
 subst e;-- al9 apo true of yc aaK Sk alj yc R9
 have ER:∀{H':Hp},(∀b∈fp,H' b=none)->∀b∈fp,qI X ah H' b:=λhn b hb=>⟨hn b hb,(f2 b hb).2⟩
 refine codeAny_forLoop_any (λn s'=>∃i eV H',aH X ah eV H' s'/\tn i s'.heap/\(∀b∈fp,H' b=none)/\W i n eV H') ?_ m0 ⟨0,σ,H2,I2,st2,λb hb=>(f2 b hb).1,w0⟩
 rintro n s3 ⟨i,σ3,H3,I3,st3,fr3,w3⟩
 rcases Me i n σ3 H3 w3 with⟨stop,qn⟩|⟨go,N,hN,BN⟩
 ·refine zdb hp (cP (T.done X rfl rfl rfl hc i ah s3 σ3 H3 X.xe I3 (ER fr3) st3 stop) λr s4 ⟨hr,I4⟩=>?_)
  subst hr;exact zda ⟨σ3,H3,I4,qn⟩
 ·refine zdb hp (cP (T.item X rfl rfl rfl hc i ah s3 σ3 H3 X.xe I3 (ER fr3) st3 go) λr s4 ⟨u,hr,h4⟩=>?_)
  subst hr;refine zdb hp (cP h4 λ_ s5 ⟨x,H5,I5,r5,y5,st5,fr5⟩=>?_)
  have I5':=I5.Mc (ER fr5) (T.j8 _ _ st5)
  refine zdb hp (cP (hg _ s5 σ3 H5 x u _ I5' r5 (BN x H5 y5)) λ_ s6 ⟨Mf,H6,I6,q6⟩=>?_)
  refine zdb hp (cP (hb _ s6 Mf H6 _ I6 q6) λf s7 q7=>?_)
  have again:∀{Mg:St} {H7:Hp},aH X (ah++tO fp s5.heap) Mg H7 s7->N Mg H7->∃m,m<n/\∃i eV H',aH X ah eV H' s7/\tn i s7.heap/\(∀b∈fp,H' b=none)/\W i m eV H':=λ{Mg H7} I7 n7=>by
   obtain⟨m',hm,w7⟩:=hN Mg H7 n7;refine⟨m',hm,i+1,Mg,H7,I7.pB,T.keep _ _ _ st5 λb hb o e=>(I7.Es (b,o) (zaP _ (zaP _ (kW hb e)))).1,λb hb=>?_,w7⟩
   obtain⟨o,e,d⟩:=T.j8 _ _ st5 b hb;exact (I7.Es (b,o) (zaP _ (zaP _ (kW hb e)))).2.1
  cases f with
  |next=>obtain⟨Mg,H7,I7,n7⟩:=q7;exact again I7 n7
  |cont=>obtain⟨Mg,H7,I7,n7⟩:=q7;exact again I7 n7
  |brk=>obtain⟨Mg,H7,I7,q7⟩:=q7;exact⟨Mg,H7,I7.pB,q7⟩
  |ret v=>obtain⟨x7,Mg,H7,I7,r7,q7⟩:=q7;exact⟨x7,Mg,H7,I7.pB,r7,q7⟩
noncomputable abbrev R2:=V->V->Hp->VK->Prop
def kU (X:Cx)(f:Value->Value->Sem Value)(r:R2):Prop:=
 ∀(ah:List (Addr×Obj)) (s:Shared) (σ:St) (H:Hp) (x y:V) (v u:Value) (Q:VK),aH X ah σ H s->bI x v->bI y u->r x y H Q ->
  wpAny (model X.prog X.w) X.A (f v u) (EP X ah σ Q) X.xe s
def UnR (X:Cx)(f:Value->Sem Value)(r:V->Hp->VK->Prop):Prop:=
 ∀(ah:List (Addr×Obj)) (s:Shared) (σ:St) (H:Hp) (x:V) (v:Value) (Q:VK),aH X ah σ H s->bI x v->r x H Q ->
  wpAny (model X.prog X.w) X.A (f v) (EP X ah σ Q) X.xe s
def ig (X:Cx)(f:Value)(r:List V->Hp->VK->Prop):Prop:=
 ∀(ah:List (Addr×Obj)) (s:Shared) (σ:St) (H:Hp) (xs:List V) (us:List Value) (Q:VK),aH X ah σ H s->bE xs us->r xs H Q ->
  wpAny (model X.prog X.w) X.A (call f us) (EP X ah σ Q) X.xe s
def tOp (r:R2)(ta tb:TE):TE:=λσ H Q=>ta σ H λx H1=>tb σ H1 λy H2=>r x y H2 Q
def tUn (r:V->Hp->VK->Prop)(ta:TE):TE:=λσ H Q=>ta σ H λx H1=>r x H1 Q
def rI (C:Int->Int->Prop)(g:Int->Int->V):R2:=λx y H Q=>∃i j,x = .int i/\y = .int j/\C i j/\Q (g i j) H
def Sn (g:Int->Int->V):R2:=λx y H Q=>∃i j,x = .int i/\y = .int j/\Q (g i j) H
noncomputable def rU (g:Int->V):V->Hp->VK->Prop:=λx H Q=>∃i,x = .int i/\Q (g i) H
theorem aaM (ha:PE X a ta)(hb:PE X b tb){ah:List (Addr×Obj)}{s:Shared}{σ:St}{H:Hp}{R:V->V->Hp->Prop}(I:aH X ah σ H s)
  (h:ta σ H λx H1=>tb σ H1 λy H2=>R x y H2) {Q:Value->Shared->Prop} {f:Value->Value->Sem Value}
  (hf:∀v u s2 x y H2,aH X ah σ H2 s2->bI x v->bI y u->R x y H2->wpAny (model X.prog X.w) X.A (f v u) Q X.xe s2):
  wpAny (model X.prog X.w) X.A (eval a X.env) (λv cD=>wpAny (model X.prog X.w) X.A (eval b X.env) (λu j7=>wpAny (model X.prog X.w) X.A (f v u) Q X.xe j7) X.xe cD) X.xe s:=by
 refine cP (ha ah s σ H _ I h) λv s1 ⟨x,H1,I1,r1,q1⟩=>?_
 refine cP (hb ah s1 σ H1 _ I1 q1) λu s2 ⟨y,H2,I2,r2,q2⟩=>?_
 exact hf v u s2 x y H2 I2 r1 r2 q2
theorem ag7 {op:Operator}{r:R2}(ho:kU X (binaryOp op) r)(ha:PE X a ta)(hb:PE X b tb):PE X (.BinOp a op b pos) (tOp r ta tb):=by
 intro ah s σ H Q I h;exact wpAny_BinOp (aaM ha hb I h λv u s2 x y H2 I2 rx ry q=>ho ah s2 σ H2 x y v u Q I2 rx ry q)
theorem ag8 (ho:UnR X (unaryOp op) r)(ha:PE X a ta):PE X (.UnaryOp op a pos) (tUn r ta):=by
 intro ah s σ H Q I h;exact UnaryOp_ (cP (ha ah s σ H _ I h) λv s1 ⟨x,H1,I1,r1,q1⟩=>ho ah s1 σ H1 x v Q I1 r1 q1)
theorem opI {f:Value->Value->Sem Value}{C:Int->Int->Prop}{g:Int->Int->Int}
  (rule:∀(i j:Int) (t u:Tok) (s:Shared) (Q:Value->Shared->Prop) (E:Value->Shared->Prop),C i j->Q (.int (g i j) s.toks) {s with toks:=s.toks+1}->wpAny (model X.prog X.w) X.A (f (.int i t) (.int j u)) Q E s):
  kU X f (rI C λi j=>.int (g i j)):=by
 intro ah s σ H x y v u Q I rx ry h;obtain⟨i,j,rfl,rfl,hc,q⟩:=h;obtain⟨t,rfl⟩:=rx;obtain⟨t',rfl⟩:=ry;exact rule i j t t' s _ _ hc ⟨.int (g i j),H,I.o9 _,⟨_,rfl⟩,q⟩
theorem ag9 {f:Value->Value->Sem Value}{g:Int->Int->Int}
  (rule:∀(i j:Int) (t u:Tok) (s:Shared) (Q:Value->Shared->Prop) (E:Value->Shared->Prop),Q (.int (g i j) s.toks) {s with toks:=s.toks+1}->wpAny (model X.prog X.w) X.A (f (.int i t) (.int j u)) Q E s):
  kU X f (Sn λi j=>.int (g i j)):=by
 intro ah s σ H x y v u Q I rx ry h;obtain⟨i,j,rfl,rfl,q⟩:=h;obtain⟨t,rfl⟩:=rx;obtain⟨t',rfl⟩:=ry;exact rule i j t t' s _ _ ⟨.int (g i j),H,I.o9 _,⟨_,rfl⟩,q⟩
theorem So {f:Value->Value->Sem Value}{g:Int->Int->Bool}
  (rule:∀(i j:Int) (t u:Tok) (s:Shared) (Q:Value->Shared->Prop) (E:Value->Shared->Prop),Q (.bool (g i j)) s->wpAny (model X.prog X.w) X.A (f (.int i t) (.int j u)) Q E s):
  kU X f (Sn λi j=>.bl (g i j)):=by
 intro ah s σ H x y v u Q I rx ry h;obtain⟨i,j,rfl,rfl,q⟩:=h;obtain⟨t,rfl⟩:=rx;obtain⟨t',rfl⟩:=ry;exact rule i j t t' s _ _ ⟨.bl (g i j),H,I,rfl,q⟩
def amw (i j:Int):Prop:=0<j/\j<1073741824
def aaN (i j:Int):Prop:=(-(2 ^ 64)<i/\i<2 ^ 64)\/(-(2 ^ 64)<j/\j<2 ^ 64)
theorem aaN.ok (h:aaN i j):IntMulOk i j:=by
 rcases h with⟨h1,h2⟩|⟨h1,h2⟩
 ·exact .of_left (intBits_le_64 h1 h2)
 ·exact .of_right (intBits_le_64 h1 h2)
theorem aaO:kU X (binaryOp .Add) (Sn λi j=>.int (i+j)):=ag9 λ_ _ _ _ _ _ _ q=>add_int q
theorem aaP:kU X (binaryOp .Sub) (Sn λi j=>.int (i - j)):=ag9 λ_ _ _ _ _ _ _ q=>sub_int q
theorem aaQ:kU X (binaryOp .Mult) (rI aaN λi j=>.int (i * j)):=opI λ_ _ _ _ _ _ _ hc q=>mul_int q hc.ok
theorem Sq:kU X (binaryOp .FloorDiv) (rI amw λi j=>.int (i / j)):=opI λi j _ _ _ _ _ hc q=>by
 have h1:(0:Int)<j:=hc.1
 have h2:j<1073741824:=hc.2
 exact floordiv_int (by omega) (by rw[Int.fdiv_eq_ediv_of_nonneg i (by omega)];exact q) (.inl (PyProof.noPylong_small (by omega)))
theorem aaR:kU X (binaryOp .Mod) (rI (λ_ j=>0<j) λi j=>.int (i % j)):=opI λi j _ _ _ _ _ hc q=>by
 have h1:(0:Int)<j:=hc
 exact mod_int' (by omega) (by rw[Int.fmod_eq_emod_of_nonneg i (by omega)];exact q)
theorem unI {f:Value->Sem Value}{g:Int->Int}
  (rule:∀(i:Int) (t:Tok) (s:Shared) (Q:Value->Shared->Prop) (E:Value->Shared->Prop),Q (.int (g i) s.toks) {s with toks:=s.toks+1}->wpAny (model X.prog X.w) X.A (f (.int i t)) Q E s):
  UnR X f (rU λi=>.int (g i)):=by
 intro ah s σ H x v Q I rx h;obtain⟨i,rfl,q⟩:=h;obtain⟨t,rfl⟩:=rx;exact rule i t s _ _ ⟨.int (g i),H,I.o9 _,⟨_,rfl⟩,q⟩
theorem aaS:UnR X (unaryOp .USub) (rU λi=>.int (-i)):=unI λ_ _ _ _ _ q=>neg_int q
noncomputable def aaT:V->V->Bool
 |.bq,.bq=>true|.bq,.int _=>true|.int _,.bq=>true|.bq,.bl _=>true|.bl _,.bq=>true|.bq,.str _=>true|.str _,.bq=>true
 |.int _,.int _=>true|.bl _,.bl _=>true|.str _,.str _=>true|.LD _,.LD _=>true
 |.int _,.str _=>true|.str _,.int _=>true|.bl _,.str _=>true|.str _,.bl _=>true
 |_,_=>false
def rEq:R2:=λx y H Q=>aaT x y=true/\Q (.bl (decide (x=y))) H
def rNe:R2:=λx y H Q=>aaT x y=true/\Q (.bl (!decide (x=y))) H
theorem G8:decide (V.int i=V.int j)=(i == j):=by
 rw[zbu];simp
theorem ES:decide (V.bl i=V.bl j)=(i == j):=by
 rw[zbu];simp
theorem G9:decide (V.str i=V.str j)=(i == j):=by
 rw[zbu];simp
theorem G_:decide (V.LD i=V.LD j)=(i.toList == j.toList):=by
 rw[zbu];cases i;cases j;simp
theorem bR (I:aH X ah σ H s)(q:Q (.bl k) H)(e:k=k'):EP X ah σ Q (.bool k') s:=by
 subst e;exact⟨.bl k,H,I,rfl,q⟩
theorem aha:kU X (compareOp .Eq) rEq:=by
 intro ah s σ H x y v u Q I rx ry h;obtain⟨hs,q⟩:=h;cases x with
 |bq =>
  cases rx;cases y with
  |bq=>cases ry;exact PySem.EqNone.eq_none_none (bR I q (by simp))
  |bl j=>cases ry;exact PySem.EqNone.eq_none_bool (bR I q (by simp))
  |int j=>obtain⟨t',rfl⟩:=ry;exact PySem.EqNone.eq_none_int (bR I q (by simp))
  |str j=>obtain⟨t',rfl⟩:=ry;exact PySem.EqNone.eq_none_str (bR I q (by simp))
  |_=>exact absurd (show false=true from hs) zai
 |bl i =>
  cases rx;cases y with
  |bq=>cases ry;exact PySem.EqNone.eq_bool_none (bR I q (by simp))
  |bl j=>cases ry;exact eq_bool (bR I q ES)
  |str j=>obtain⟨t',rfl⟩:=ry;exact PySem.EqMixed.eq_bool_str (bR I q (by simp))
  |_=>exact absurd (show false=true from hs) zai
 |int i =>
  obtain⟨t,rfl⟩:=rx;cases y with
  |bq=>cases ry;exact PySem.EqNone.eq_int_none (bR I q (by simp))
  |int j=>obtain⟨t',rfl⟩:=ry;exact eq_int (bR I q G8)
  |str j=>obtain⟨t',rfl⟩:=ry;exact PySem.EqMixed.eq_int_str (bR I q (by simp))
  |_=>exact absurd (show false=true from hs) zai
 |str i =>
  obtain⟨t,rfl⟩:=rx;cases y with
  |bq=>cases ry;exact PySem.EqNone.eq_str_none (bR I q (by simp))
  |bl j=>cases ry;exact PySem.EqMixed.eq_str_bool (bR I q (by simp))
  |int j=>obtain⟨t',rfl⟩:=ry;exact PySem.EqMixed.eq_str_int (bR I q (by simp))
  |str j=>obtain⟨t',rfl⟩:=ry;exact eq_str (bR I q G9)
  |_=>exact absurd (show false=true from hs) zai
 |LD i =>
  obtain⟨t,rfl⟩:=rx;cases y with
  |LD j=>obtain⟨t',rfl⟩:=ry;exact PySem.W.eq_bytes (bR I q G_)
  |_=>exact absurd (show false=true from hs) zai
 |_=>cases y<;>exact absurd (show false=true from hs) zai
theorem ahb:kU X (compareOp .NotEq) rNe:=by
 intro ah s σ H x y v u Q I rx ry h;obtain⟨hs,q⟩:=h;cases x with
 |bq =>
  cases rx;cases y with
  |bq=>cases ry;exact PySem.EqNone.ne_none_none (bR I q (by simp))
  |bl j=>cases ry;exact PySem.EqNone.ne_none_bool (bR I q (by simp))
  |int j=>obtain⟨t',rfl⟩:=ry;exact PySem.EqNone.ne_none_int (bR I q (by simp))
  |str j=>obtain⟨t',rfl⟩:=ry;exact PySem.EqNone.ne_none_str (bR I q (by simp))
  |_=>exact absurd (show false=true from hs) zai
 |bl i =>
  cases rx;cases y with
  |bq=>cases ry;exact PySem.EqNone.ne_bool_none (bR I q (by simp))
  |bl j=>cases ry;exact ne_bool (bR I q (congrArg not ES))
  |str j=>obtain⟨t',rfl⟩:=ry;exact PySem.EqMixed.ne_bool_str (bR I q (by simp))
  |_=>exact absurd (show false=true from hs) zai
 |int i =>
  obtain⟨t,rfl⟩:=rx;cases y with
  |bq=>cases ry;exact PySem.EqNone.ne_int_none (bR I q (by simp))
  |int j=>obtain⟨t',rfl⟩:=ry;exact ne_int (bR I q (congrArg not G8))
  |str j=>obtain⟨t',rfl⟩:=ry;exact PySem.EqMixed.ne_int_str (bR I q (by simp))
  |_=>exact absurd (show false=true from hs) zai
 |str i =>
  obtain⟨t,rfl⟩:=rx;cases y with
  |bq=>cases ry;exact PySem.EqNone.ne_str_none (bR I q (by simp))
  |bl j=>cases ry;exact PySem.EqMixed.ne_str_bool (bR I q (by simp))
  |int j=>obtain⟨t',rfl⟩:=ry;exact PySem.EqMixed.ne_str_int (bR I q (by simp))
  |str j=>obtain⟨t',rfl⟩:=ry;exact ne_str (bR I q (congrArg not G9))
  |_=>exact absurd (show false=true from hs) zai
 |LD i =>
  obtain⟨t,rfl⟩:=rx;cases y with
  |LD j=>obtain⟨t',rfl⟩:=ry;exact PySem.W.ne_bytes (bR I q (congrArg not G_))
  |_=>exact absurd (show false=true from hs) zai
 |_=>cases y<;>exact absurd (show false=true from hs) zai
theorem ahc:kU X (compareOp .Lt) (Sn λi j=>.bl (decide (i<j))):=So λ_ _ _ _ _ _ _ q=>lt_int q
theorem ahd:kU X (compareOp .LtE) (Sn λi j=>.bl (decide (i<=j))):=So λ_ _ _ _ _ _ _ q=>le_int q
theorem ahf:kU X (compareOp .Gt) (Sn λi j=>.bl (decide (j<i))):=So λ_ _ _ _ _ _ _ q=>gt_int q
theorem ahg:kU X (compareOp .GtE) (Sn λi j=>.bl (decide (j<=i))):=So λ_ _ _ _ _ _ _ q=>ge_int q
theorem JF:kU X (compareOp .In) (λx y H Q=>∃i j,x = .str i/\y = .str j/\Q (.bl (!(Builtin.Str.occurrences j i 0 j.length 1).isEmpty)) H):=by
 intro ah s σ H x y v u Q I rx ry h;obtain⟨i,j,rfl,rfl,q⟩:=h;obtain⟨t,rfl⟩:=rx;obtain⟨t',rfl⟩:=ry;exact in_str (bR I q rfl)
theorem aaU:kU X (compareOp .Is) (λx y H Q=>y = .bq/\Q (.bl (decide (x = .bq))) H):=by
 intro ah s σ H x y v u Q I rx ry h;obtain⟨rfl,q⟩:=h;cases ry;refine is_none_gen (bR I q ?_)
 cases x<;>first
  | (cases rx;rfl)
  | (obtain⟨t,rfl⟩:=rx;rfl)
theorem Ss:kU X (compareOp .IsNot) (λx y H Q=>y = .bq/\Q (.bl (!decide (x = .bq))) H):=by
 intro ah s σ H x y v u Q I rx ry h;obtain⟨rfl,q⟩:=h;cases ry;refine isnot_none_gen (bR I q ?_)
 cases x<;>first
  | (cases rx;rfl)
  | (obtain⟨t,rfl⟩:=rx;rfl)
theorem jS (b:Expr)(h:op ≠ .In:=by decide)(h2:op ≠ .NotIn:=by decide):behindInMarks op b=false:=by
 have e1:(op == CmpOp.In)=false:=by cases op<;>first|rfl|exact absurd rfl h
 have e2:(op == CmpOp.NotIn)=false:=by cases op<;>first|rfl|exact absurd rfl h2
 cases b<;>simp[behindInMarks,e1,e2]
theorem Su (ho:kU X (compareOp op) r)(ha:PE X a ta)(hb:PE X b tb)(hm:behindInMarks op b=false):PE X (.Compare a [op] [b] pos) (tOp r ta tb):=by
 intro ah s σ H Q I h;exact wpAny_Compare1 (aaM ha hb I h λv u s2 x y H2 I2 rx ry q=>ho ah s2 σ H2 x y v u Q I2 rx ry q) hm
def WL (t:TE):TT:=λσ H Q=>t σ H λx H'=>∃k,x = .bl k/\Q k H'
theorem Sv (ho:kU X (compareOp op) r)(ha:PE X a ta)(hb:PE X b tb)(hm:behindInMarks op b=false):PT X (.Compare a [op] [b] pos) (WL (tOp r ta tb)):=by
 intro ah s σ H Q I h;refine wpAny_isTrue_Compare1 (cP (ha ah s σ H _ I h) λv s1 ⟨x,H1,I1,r1,q1⟩=>cP (hb ah s1 σ H1 _ I1 q1) λu s2 ⟨y,H2,I2,r2,q2⟩ =>
  cP (ho ah s2 σ H2 x y v u _ I2 r1 r2 q2) λc s3 ⟨z,H3,I3,r3,k,e,q3⟩=>?_) hm
 subst e;cases r3;exact zbh ⟨H3,I3,q3⟩
def ET (r r':R2)(ta tb tc:TE):TE:=λσ H Q=>ta σ H λx H1=>tb σ H1 λy H2=>r x y H2 λz H3=>∃k,z = .bl k /\
 (if k=true then tc σ H3 λw' H4=>r' y w' H4 Q else Q (.bl false) H3)
theorem Mh (ho:kU X (compareOp op) r)(sQ:kU X (compareOp Mi) r')(ha:PE X a ta)(hb:PE X b tb)(hc:PE X c tc)
  (hm:lastMarks [op,Mi] [b,c]=false:=by with_unfolding_all rfl):PE X (.Compare a [op,Mi] [b,c] pos) (ET r r' ta tb tc):=by
 intro ah s σ H Q I h;refine Compare_chain (cP (ha ah s σ H _ I h) λv s1 ⟨x,H1,I1,r1,q1⟩=>chain_link (cP (hb ah s1 σ H1 _ I1 q1) λu s2 ⟨y,H2,I2,r2,q2⟩ =>
  cP (ho ah s2 σ H2 x y v u _ I2 r1 r2 q2) λd s3 ⟨z,H3,I3,r3,k,e,q3⟩=>?_)) hm
 subst e;cases r3;refine zbh ?_
 cases k with
 |false=>exact ite_ff ⟨.bl false,H3,I3,rfl,q3⟩
 |true=>exact ite_tt (chain_last (cP (hc ah s3 σ H3 _ I3 q3) λw' s4 ⟨z',H4,I4,r4,q4⟩=>sQ ah s4 σ H4 y z' u w' Q I4 r2 r4 q4))
theorem Mj (ho:kU X (compareOp op) r)(sQ:kU X (compareOp Mi) r')(ha:PE X a ta)(hb:PE X b tb)(hc:PE X c tc)
  (hm:lastMarks [op,Mi] [b,c]=false:=by with_unfolding_all rfl):PT X (.Compare a [op,Mi] [b,c] pos) (WL (ET r r' ta tb tc)):=by
 intro ah s σ H Q I h;refine isTrue_chain (cP (ha ah s σ H _ I h) λv s1 ⟨x,H1,I1,r1,q1⟩=>test_link (cP (hb ah s1 σ H1 _ I1 q1) λu s2 ⟨y,H2,I2,r2,q2⟩ =>
  cP (ho ah s2 σ H2 x y v u _ I2 r1 r2 q2) λd s3 ⟨z,H3,I3,r3,k,e,q3⟩=>?_)) hm
 subst e;cases r3;refine zbh ?_
 cases k with
 |false =>
  obtain⟨k',e',q'⟩:=q3;cases e';exact ite_ff ⟨H3,I3,q'⟩
 |true =>
  refine ite_tt (test_last (cP (hc ah s3 σ H3 _ I3 q3) λw' s4 ⟨z',H4,I4,r4,q4⟩=>cP (sQ ah s4 σ H4 y z' u w' _ I4 r2 r4 q4) λd' s5 ⟨z2,H5,I5,r5,k2,e2,q5⟩=>?_))
  subst e2;cases r5;exact zbh ⟨H5,I5,q5⟩
theorem tP:(sizeLine:Nat)<2 ^ 63:=by rw[zbk];decide
theorem EU:kU X (binaryOp .Add) (λx y H Q=>∃i j,x = .str i/\y = .str j/\i.length+j.length<=sizeLine/\Q (.str (i++j)) H):=by
 intro ah s σ H x y v u Q I rx ry h;obtain⟨i,j,rfl,rfl,hz,q⟩:=h;obtain⟨t,rfl⟩:=rx;obtain⟨t',rfl⟩:=ry;exact add_str (λt' tk=>⟨.str (i++j),H,I.o9 _,⟨_,rfl⟩,q⟩) hz
theorem j9 (r:bE [x] us):∃u,us=[u]/\bI x u:=by
 cases r with
 |cons r1 r2=>cases r2;exact⟨_,rfl,r1⟩
theorem yg:ig X (.type "int") (λxs H Q=>(∃i,xs=[.int i]/\Q (.int i) H)\/∃k,xs=[.bl k]/\Q (.int (if k then 1 else 0)) H):=by
 intro ah s σ H xs us Q I r h;rcases h with⟨i,rfl,q⟩|⟨k,rfl,q⟩
 ·obtain⟨u,rfl,t,rfl⟩:=j9 r
  exact call_int_int ⟨.int i,H,I,⟨_,rfl⟩,q⟩
 ·obtain⟨u,rfl,r1⟩:=j9 r
  cases r1;exact call_int_bool ⟨.int (if k then 1 else 0),H,I.o9 _,⟨_,rfl⟩,q⟩
structure EV (h:Heap) (x dx C:Addr) (mA:Str->Option Value):Prop where
 j8:h.get? x=some (PySem.W.instObj C dx)
 ns:h.Ns1 dx mA
 ne:dx≠x
theorem yh {h:Heap}{dx:Addr}{mA:Str->Option Value}(n:h.Ns1 dx mA):∃od,h.get? dx=some od/\∀name,PySem.W.lookIn name od=some (mA name):=by
 obtain⟨o,es,ep,ho,hd,hk,_,hm⟩:=n;refine⟨o,ho,λname=>?_⟩
 have e:=hm name;unfold nsFind findBy at e;rw[<-Array.find?_toList] at e;unfold PySem.W.lookIn;rw[hd];dsimp only;split
 ·rename_i y q
  rw[q] at e;exact congrArg some e
 ·rename_i q
  rw[q] at e;have a:es.toList.any (·.refKey)=false:=by
   rw[List.any_eq_false];intro y hy;obtain⟨z,t,EW⟩:=hk y (Array.mem_toList_iff.mp hy)
   simp[DictEntry.refKey,EW]
  have a':¬ es.toList.any (·.refKey)=true:=by rw[a];exact zai
  rw[if_neg a'];exact congrArg some e
theorem EV.Sw (I:EV h x dx C mA):∃od,PySem.W.InstAt h x (PySem.W.instObj C dx) C (some od)/\∀name,PySem.W.lookIn name od=some (mA name):=
 let ⟨od,ho,hl⟩:=yh I.ns
 ⟨od,⟨I.j8,rfl,rfl,ho⟩,hl⟩
section
variable {prog:Program}{w:World}{A:Around}{E:Value->Shared->Prop}{s:Shared}{K:PySem.W.Frag}{x dx C f:Addr}{mA:Str->Option Value}{name:Str}{v:Value}
theorem Sx (X:K.In s.heap)(I:EV s.heap x dx C mA)(hg:PySem.W.plainGet K C name=true)(hh:PySem.W.hasDictIn K C=true)
  (ha:PySem.W.findIn K (.ref C) name=some none) (hv:mA name=some v) (hv':PySem.W.handedIn v=true) (h:Q v {s with toks:=s.toks+1}):
  wpAny (model prog w) A (getAttr (.ref x) name arc) Q E s:=by
 obtain⟨od,J,hl⟩:=I.Sw;exact PySem.W.get_value X J (zdG hg).1 (PySem.W.findObj_own hh ha rfl (by rw[hl,hv])) hv' h
theorem Ml (X:K.In s.heap)(I:EV s.heap x dx C mA)(hg:PySem.W.plainGet K C name=true)
  (hf:PySem.W.findIn K (.ref C) name=some (some (.ref f))) (ht:PySem.W.isFn K (.ref f)=true) (hv:mA name=none) (h:Q (.ref f,[.ref x]) s):
  wpAny (model prog w) A (getMethod (.ref x) name pl) Q E s:=by
 obtain⟨od,J,hl⟩:=I.Sw;exact PySem.W.method_fn X J (zdG hg).1 (zdG hg).2 hf (beq_iff_eq.mp ht) (by show (PySem.W.lookIn name od).map (·.isSome)=some false;rw[hl,hv];rfl) h
theorem Sy (X:K.In s.heap)(I:EV s.heap x dx C mA)
  (hs:PySem.W.findIn K (.ref C) "__setattr__"=some (some (.builtin "object.__setattr__"))) (hp:PySem.W.plainOver K C=true) (ht:PySem.W.takerIn K C name=some none) (hh:PySem.W.hasDictIn K C=true)
  (hw:PySem.Within mA ns) (hsz:ns.length<=sizeLine)
  (h:∀h',EV h' x dx C (λy=>if y=name then some v else mA y)->Heap.SameBut dx s.heap h'->Q () {s with heap:=h',toks:=s.toks+2}):
  wpAny (model prog w) A (setAttr (.ref x) name v) Q E s:=by
 obtain⟨od,J,hl⟩:=I.Sw;refine zfD X J hs (PySem.W.osa_open (s:={s with toks:=s.toks+1}) (r:=none) X J hp ht λb=>?_)
 obtain⟨cd,hc,RL⟩:=PySem.W.any_some hh;have hx:s.heap.get? x=some ⟨.ref C,some dx,.plain,#[]⟩:=I.j8
 refine zaa (zac (zaa (zaa (zeU hx (zaa (zbJ (s:={s with toks:=s.toks+1}) (zcX X hc) ?_))))))
 rw[RL];refine zac (a:=some dx) (zaa (zac (zaa ?_)))
 refine wpAny_nsSet1 (s:={s with toks:=s.toks+1}) I.ns λh' RP LF=>?_
 obtain⟨oD,esD,epD,hoD,hdD,hcD⟩:=RP.count (PySem.Within.cons name v hw)
 refine zaa (zem hoD (by rw[hdD];exact zen (zah hcD (by rw[zas];omega))) ?_)
 exact zac (h _ ⟨(LF.2 _ (zbe I.ne)).trans I.j8,RP,I.ne⟩ LF)
theorem Mm (X:K.In s.heap)(hm:PySem.W.makesIn K C=true)
  (hi:PySem.W.findIn K (.ref C) "__init__"=some (some (.ref f))) (hf:PySem.W.typeIn K (.ref f)=some (.type "function"))
  (h:codeAny (model prog w) (A.under (.builtin "type.__call__" ⟨.ref C::vs,kw⟩)) (.call (.ref f) ⟨.ref (s.heap.objs.size+1)::vs,kw⟩) (PySem.W.InitBack (s.heap.objs.size+1) R)
   {s with heap:=(s.heap.push PySem.W.emptyDict).push (PySem.W.instObj C s.heap.objs.size)}):
  codeAny (model prog w) A (.call (.ref C) ⟨vs,kw⟩) R s:=by
 obtain⟨hh,g,d,t,os⟩:=s;exact PySem.W.make_core (PySem.W.makes_of X hm) (zdx X hi) (λself=>PySem.W.bind_fn X self hf) (.inl rfl) h
end
noncomputable def gB (f:Str)(v:V):List (Str×V)->List (Str×V)
 |[]=>[(f,v)]
 | (g,x)::r=>if g=f then (g,v)::r else (g,x)::gB f v r
theorem mL (f g:Str)(v:V):∀fs:List (Str×V),(gB f v fs).lookup g=if g=f then some v else fs.lookup g
 |[]=>by
  show List.lookup g [(f,v)]=_
  by_cases h:g=f
  ·have hb:(g == f)=true:=beq_iff_eq.mpr h
   simp only[List.lookup,hb,if_pos h]
  ·have hb:(g == f)=false:=beq_eq_false_iff_ne.mpr h
   simp only[List.lookup,hb,if_neg h]
 | (k,x)::r=>by
  have ih:=mL f g v r;rw[show gB f v ((k,x)::r)=(if k=f then (k,v)::r else (k,x)::gB f v r) from rfl];by_cases hk:k=f
  ·rw[if_pos hk]
   by_cases h:g=k
   ·have hb:(g == k)=true:=beq_iff_eq.mpr h
    simp only[List.lookup,hb,if_pos (h.trans hk)]
   ·have hb:(g == k)=false:=beq_eq_false_iff_ne.mpr h
    simp only[List.lookup,hb,if_neg (λe:g=f=>h (e.trans hk.symm))]
  ·rw[if_neg hk]
   by_cases h:g=k
   ·have hb:(g == k)=true:=beq_iff_eq.mpr h
    simp only[List.lookup,hb,if_neg (λe:g=f=>hk (h.symm.trans e))]
   ·have hb:(g == k)=false:=beq_eq_false_iff_ne.mpr h
    simp only[List.lookup,hb];exact ih
theorem j_ (f:Str)(v:V):∀fs:List (Str×V),f∈(gB f v fs).map (·.1)/\∀g,g∈fs.map (·.1)->g∈(gB f v fs).map (·.1)
 |[]=>⟨by simp[gB],λg h=>by simp at h⟩
 | (k,x)::r=>by
  obtain⟨i1,i2⟩:=j_ f v r;rw[show gB f v ((k,x)::r)=(if k=f then (k,v)::r else (k,x)::gB f v r) from rfl];by_cases hk:k=f
  ·rw[if_pos hk]
   subst hk;exact⟨by simp,λg h=>by simpa using h⟩
  ·rw[if_neg hk]
   refine⟨?_,λg h=>?_⟩
   ·rw[zat]
    exact zaJ _ i1
   ·rw[zat] at h ⊢
    rcases zam.mp h with e|e
    ·exact zam.mpr (.inl e)
    ·exact zaJ _ (i2 g e)
theorem rG (f:Str)(v:V):∀fs:List (Str×V),(gB f v fs).length<=fs.length+1
 |[]=>by simp[gB]
 | (k,x)::r=>by
  have ih:=rG f v r;rw[show gB f v ((k,x)::r)=(if k=f then (k,v)::r else (k,x)::gB f v r) from rfl];by_cases hk:k=f
  ·rw[if_pos hk,zas,zas];omega
  ·rw[if_neg hk,zas,zas];omega
theorem jf.z_ (r:jf (some v) o):∃u,o=some u/\bI v u:=by
 cases o with
 |none=>exact (show False from r).elim
 |some u=>exact⟨u,rfl,r⟩
theorem jf.SA (r:jf none o):o=none:=by
 cases o with
 |none=>rfl
 |some u=>exact (show False from r).elim
theorem JG (r:bI v u):PySem.W.handedIn u=true:=by
 cases v with
 |bq=>cases (show u=Value.none from r);rfl
 |bl b=>cases (show u=Value.bool b from r);rfl
 |int i=>obtain⟨t,e⟩:=(show ∃t,u=Value.int i t from r);cases e;rfl
 |str x=>obtain⟨t,e⟩:=(show ∃t,u=Value.str x t from r);cases e;rfl
 |LD b=>obtain⟨t,e⟩:=(show ∃t,u=Value.bytes b t from r);cases e;rfl
 |flt b=>obtain⟨t,e⟩:=(show ∃t,u=Value.float b t from r);cases e;rfl
 |ref a=>cases (show u=Value.ref a from r);rfl
 |ty n=>cases (show u=Value.type n from r);rfl
theorem sR (bZ:nV P w H h)(e:H a=some (.fH C dx fs)):∃mA,EV h a dx C mA/\(∀f,jf (fs.lookup f) (mA f))/\PySem.Within mA (fs.map (·.1))/\fs.length<=1000/\H dx=some (.tF a):=by
 obtain⟨d,z,ne,ob,mA,n,r,q⟩:=(show bP P w H h a (.fH C dx fs) from bZ a _ e)
 exact⟨mA,⟨ob,n,ne⟩,r,q,z,d⟩
structure wZ (K:PySem.W.Frag) (C:Addr):Prop where
 pg:PySem.W.plainGet K C Str.empty=true
 hd:PySem.W.hasDictIn K C=true
 po:PySem.W.plainOver K C=true
 sa:PySem.W.findIn K (.ref C) "__setattr__"=some (some (.builtin "object.__setattr__"))
theorem wZ.get {K:PySem.W.Frag}{C:Addr}(c:wZ K C)(f:Str):PySem.W.plainGet K C f=true:=c.pg
def cu (K:PySem.W.Frag)(C:Addr)(f:Str):Prop:=PySem.W.findIn K (.ref C) f=some none
theorem cu.ahj {K:PySem.W.Frag}{C:Addr}{f:Str}(n:cu K C f):PySem.W.takerIn K C f=some none:=by
 unfold PySem.W.takerIn;rw[show PySem.W.findIn K (.ref C) f=some none from n];rfl
structure dJ (K:PySem.W.Frag) (C:Addr) (m:Str) (f:Addr):Prop where
 tQ:PySem.W.findIn K (.ref C) m=some (some (.ref f))
 fn:PySem.W.isFn K (.ref f)=true
 kp:PySem.W.keepIn K (.ref f)=true
theorem tR (I:aH X ah σ H s)(e:H a=some (.fH C dx fs))(c:wZ X.K C)(n:cu X.K C f)(l:fs.lookup f=some v)
  (h:∀u s',aH X ah σ H s'->bI v u->Q u s'):wpAny (model X.prog X.w) A (getAttr (.ref a) f b) Q E s:=by
 obtain⟨mA,O,r,_,_,_⟩:=sR I.bZ e;obtain⟨u,hu,ru⟩:=jf.z_ (v:=v) (o:=mA f) (by rw[<-l];exact r f)
 exact Sx I.kT O (c.get f) c.hd n hu (JG ru) (h u _ (I.o9 _) ru)
theorem oN (I:aH X ah σ H s)(e:H a=some (.fH C dx fs))(c:wZ X.K C)(k:dJ X.K C m g)(l:fs.lookup m=none)
  (h:Q (.ref g,[.ref a]) s):wpAny (model X.prog X.w) A (getMethod (.ref a) m pl) Q E s:=by
 obtain⟨mA,O,r,_,_,_⟩:=sR I.bZ e;have hn:mA m=none:=jf.SA (by rw[<-l];exact r m)
 exact Ml I.kT O (c.get m) k.tQ k.fn hn h
theorem tS (I:aH X ah σ H s)(e:H a=some (.fH C dx fs))(c:wZ X.K C)(n:cu X.K C f)(hl:fs.length<1000)(ry:bI y u)
  (h:∀s',aH X ah σ (bf H a (.fH C dx (gB f y fs))) s'->Q () s'):wpAny (model X.prog X.w) A (setAttr (.ref a) f u) Q E s:=by
 obtain⟨mA,O,r,wi,_,ho⟩:=sR I.bZ e;have hz:(fs.map (·.1)).length<=sizeLine:=by rw[zad,zbk];omega
 refine Sy I.kT O c.sa c.po n.ahj c.hd wi hz λh' O' sb=>h _ ?_
 have hd:∃o,h'.get? dx=some o:=let ⟨o,_,_,e',_⟩:=O'.ns;⟨o,e'⟩
 refine I.j6 (x:=a) (e:=dx) (by rw[e];exact True.intro) (.inr ho) (λb q hb z=>(sb.2 b hb).trans z) hd ?_
 refine⟨by rw[av O.ne];exact ho,?_,O.ne,O'.j8,_,O'.ns,λg=>?_,λg hg=>?_⟩
 ·have:=rG f y fs;omega
 ·show jf ((gB f y fs).lookup g) (if g=f then some u else mA g)
  rw[mL];by_cases q:g=f
  ·rw[if_pos q,if_pos q];exact ry
  ·rw[if_neg q,if_neg q];exact r g
 ·by_cases q:g=f
  ·rw[q];exact (j_ f y fs).1
  ·refine (j_ f y fs).2 g (wi g λz=>hg ?_)
   show (if g=f then some u else mA g)=none
   rw[if_neg q];exact z
theorem aH.made (I:aH X ah σ H s):aH X ah σ (bf (bf H s.heap.objs.size (.tF (s.heap.objs.size+1))) (s.heap.objs.size+1) (.fH C s.heap.objs.size []))
  {s with heap:=(s.heap.push PySem.W.emptyDict).push (PySem.W.instObj C s.heap.objs.size)}:=by
 have e1:(s.heap.push PySem.W.emptyDict).get? s.heap.objs.size=some PySem.W.emptyDict:=zak s.heap rfl
 have e2:((s.heap.push PySem.W.emptyDict).push (PySem.W.instObj C s.heap.objs.size)).get? (s.heap.objs.size+1)=some (PySem.W.instObj C s.heap.objs.size):=by
  have:=zak (s.heap.push PySem.W.emptyDict) (o:=PySem.W.instObj C s.heap.objs.size) rfl
  rwa[zbp] at this
 have e3:(s.heap.push PySem.W.emptyDict).Ns s.heap.objs.size (λ_=>none):=⟨PySem.W.emptyDict,#[],_,e1,rfl,(λe he=>absurd he (by simp)),λ_=>rfl⟩
 have I1:=I.iJ (a:=s.heap.objs.size) (o:=.tF (s.heap.objs.size+1)) (h':=s.heap.push PySem.W.emptyDict) (t':=s.toks) (λb u q=>zab _ q) (zaf _) ⟨_,e1⟩
 refine I1.iJ (a:=s.heap.objs.size+1) (o:=.fH C s.heap.objs.size []) (t':=s.toks) (λb u q=>zab _ q) (Nat.le_of_eq (zbp _ _)) ?_
 have ne:s.heap.objs.size≠s.heap.objs.size+1:=zao (zbb _)
 refine⟨by rw[av ne,aq],zbM _,ne,e2,λ_=>none,(Heap.Ns1.of_empty e3).at λo q=>zab _ q,λ_=>True.intro,λy hy=>absurd rfl hy⟩
theorem SD (hb:attributeBase e f env (eval e env)=eval e env)
  (h:wpAny (model prog w) A (eval e env) (λo cD=>wpAny (model prog w) A (getAttr o f true) Q E cD) E s):wpAny (model prog w) A (eval (.Attribute e f pos) env) Q E s:=
 Attribute_any_ h (by rw[arm_eval_Attribute,hb])
def amy (K:PySem.W.Frag)(ta:TE)(f:Str):TE:=λσ H Q=>ta σ H λx H1=>∃a C dx fs v,x = .ref a/\H1 a=some (.fH C dx fs)/\wZ K C/\cu K C f/\fs.lookup f=some v/\Q v H1
def amz (K:PySem.W.Frag)(ta tv:TE)(f:Str):TS:=λD σ H=>tv σ H λy H1=>ta σ H1 λx H2=>∃a C dx fs,x = .ref a/\H2 a=some (.fH C dx fs)/\wZ K C/\cu K C f/\fs.length<1000 /\
 D.nx σ (bf H2 a (.fH C dx (gB f y fs)))
def SE (X:Cx)(op:Operator)(rd:V->V->Hp->VK->Prop):Prop:=
 ∀(ah:List (Addr×Obj)) (s:Shared) (σ:St) (H:Hp) (x y:V) (u v:Value) (Q:VK),aH X ah σ H s->bI x u->bI y v->rd x y H Q->wpAny (model X.prog X.w) X.A (inplaceOp op u v) (EP X ah σ Q) X.xe s
def SG (K:PySem.W.Frag)(ta tv:TE)(rd:V->V->Hp->VK->Prop)(f:Str):TS:=λD σ H=>ta σ H λx H1=>∃a C dx fs v,x = .ref a/\H1 a=some (.fH C dx fs)/\wZ K C/\cu K C f/\fs.lookup f=some v /\
 tv σ H1 λy H2=>rd v y H2 λz H3=>∃dx' LG,H3 a=some (.fH C dx' LG)/\LG.length<1000/\D.nx σ (bf H3 a (.fH C dx' (gB f z LG)))
theorem aaV (he:PE X e ta)(hb:attributeBase e f X.env (eval e X.env)=eval e X.env):PE X (.Attribute e f pos) (amy X.K ta f):=by
 intro ah s σ H Q I h;refine SD hb (cP (he ah s σ H _ I h) λu s1 yy=>?_);obtain⟨x,H1,I1,rx,a,C,dx,fs,v,ex,ea,c,n,l,q⟩:=yy
 subst ex;obtain rfl:u=Value.ref a:=rx
 exact tR I1 ea c n l λu' s2 I2 ru=>⟨v,H1,I2,ru,q⟩
theorem aaW (ha:PE X o ta)(hv:PE X value tv)(hs:swapsWith value (some (.Attribute o f jB)) pos.line X.env=pure false):PS X (.Assign [.Attribute o f jB] value pos) (amz X.K ta tv f):=by
 intro ah s σ H D I h;refine zcv (cP (hv ah s σ H _ I h) λu s1 ⟨y,H1,I1,ry,q⟩=>cP (ha ah s1 σ H1 _ I1 q) λov s2 yy=>?_) hs;obtain⟨x,H2,I2,rx,a,C,dx,fs,ex,ea,c,n,l,q2⟩:=yy
 subst ex;obtain rfl:ov=Value.ref a:=rx
 exact tS I2 ea c n l ry λs3 I3=>⟨σ,_,I3,q2⟩
theorem JH (ha:PE X o ta)(hv:PE X value tv)(hop:SE X op rd):PS X (.AugAssign (.Attribute o f ard) op value pos) (SG X.K ta tv rd f):=by
 intro ah s σ H D I h;refine wpAny_AugAssign_AttributeAny (cP (ha ah s σ H _ I h) λov s1 yy=>?_);obtain⟨x,H1,I1,rx,a,C,dx,fs,v,ex,ea,c,n,l,q⟩:=yy
 subst ex;obtain rfl:ov=Value.ref a:=rx
 refine tR I1 ea c n l λu s2 I2 ru=>cP (hv ah s2 σ H1 _ I2 q) λw3 s3 ⟨y,H2,I3,ry,q3⟩=>cP (hop ah s3 σ H2 v y u w3 _ I3 ru ry q3) λw4 s4 yy=>?_;obtain⟨z,H3,I4,rz,dx',LG,ea',l',q4⟩:=yy
 exact tS I4 ea' c n l' rz λs5 I5=>⟨σ,_,I5,q4⟩
noncomputable def amB:V->V->Hp->VK->Prop:=λx y H Q=>∃i j,x = .int i/\y = .int j/\Q (.int (i+j)) H
theorem aaX:SE X .Add amB:=by
 rintro ah s σ H x y u v Q I rx ry ⟨i,j,rfl,rfl,q⟩
 obtain⟨t,rfl⟩:=(show ∃t,u=Value.int i t from rx)
 obtain⟨t',rfl⟩:=(show ∃t',v=Value.int j t' from ry)
 exact PyProof.Rows.iadd_int ⟨.int (i+j),H,I.o9 _,⟨_,rfl⟩,q⟩
section
variable {X:Cx}{ah:List (Addr×Obj)}{σ:St}{H:Hp}{s:Shared}{A:Around}{E:Value->Shared->Prop}{Q:Value->Shared->Prop}{c:Value}{b:Bool}
inductive pC (K:PySem.W.Frag) (H:Hp):V->Value->Prop where
 |bq:pC K H .bq (.type "NoneType")
 |bl (x:Bool):pC K H (.bl x) (.type "bool")
 |int (i:Int):pC K H (.int i) (.type "int")
 |str (x:Str):pC K H (.str x) (.type "str")
 |flt (x:UInt64):pC K H (.flt x) (.type "float")
 |bD {a:Addr} {xs:List V} (e:H a=some (.bD xs)):pC K H (.ref a) (.type "list")
 |qH {a:Addr} {o:Obj} {xs:List V} (e:H a=some (.qH o (.bD xs))):pC K H (.ref a) (.type "list")
 |gn {a:Addr} {xs:List V} (e:H a=some (.gn xs)):pC K H (.ref a) (.type "tuple")
 |dK {a:Addr} {aI:List (dF×V)} (e:H a=some (.dK aI)):pC K H (.ref a) (.type "dict")
 |dT {a:Addr} {aI:List (List dF×V)} (e:H a=some (.dT aI)):pC K H (.ref a) (.type "dict")
 |fH {a C dx:Addr} {fs:List (Str×V)} (e:H a=some (.fH C dx fs)) (cl:wZ K C) (ha:PySem.W.findIn K (.ref C) "__class__"=some (some (.builtin "object.__class__")))
   (hn:PySem.W.specialIn K (.builtin "object.__class__") "__get__"=some (some (.builtin "getset_descriptor.__get__"))) (htk:PySem.W.takesIn K (.builtin "object.__class__")=some true)
   (hm:PySem.W.mroIn K C (.type "object")=some true):pC K H (.ref a) (.ref C)
theorem JI (I:aH X ah σ H s)(rx:bI x u)(ty:pC X.K H x t)(e:PySem.W.kitOne X.K t c=some b)(h:∀tk,Q (.bool b) {s with toks:=tk}):
  wpAny (model X.prog X.w) A (call (.builtin "isinstance") [u,c]) Q E s:=by
 cases ty with
 |bq=>cases (show u=Value.none from rx);exact zbl PySem.W.kitx_none I.kT True.intro e (λz=>nomatch z) h
 |bl y=>cases (show u=Value.bool y from rx);exact zbl PySem.W.kitx_bool I.kT True.intro e (λz=>nomatch z) h
 |int i=>obtain⟨t,q⟩:=(show ∃t,u=Value.int i t from rx);cases q;exact zbl PySem.W.kitx_int I.kT True.intro e (λz=>nomatch z) h
 |str y=>obtain⟨t,q⟩:=(show ∃t,u=Value.str y t from rx);cases q;exact zbl PySem.W.kitx_str I.kT True.intro e (λz=>nomatch z) h
 |flt y=>obtain⟨t,q⟩:=(show ∃t,u=Value.float y t from rx);cases q;exact zbl PySem.W.kitx_float I.kT True.intro e (λz=>nomatch z) h
 | @bD a xs ea =>
  cases (show u=Value.ref a from rx)
  obtain⟨_,_,n,_,h1⟩:=(show bP X.prog X.w H s.heap a (.bD xs) from I.bZ a _ ea)
  exact zbl zfF I.kT ⟨_,h1,rfl⟩ e (λz=>nomatch z) h
 | @qH a ob xs ea =>
  cases (show u=Value.ref a from rx)
  obtain⟨_,_,_,n,_,h1⟩:=(show bP X.prog X.w H s.heap a (.qH ob (.bD xs)) from I.bZ a _ ea)
  exact zbl zfF I.kT ⟨_,h1,rfl⟩ e (λz=>nomatch z) h
 | @gn a xs ea =>
  cases (show u=Value.ref a from rx)
  obtain⟨_,_,_,p⟩:=(show bP X.prog X.w H s.heap a (.gn xs) from I.bZ a _ ea)
  obtain⟨o,h1,h2,_⟩:=p;exact zbl PySem.W.kitx_tuple I.kT ⟨o,h1,h2⟩ e (λz=>nomatch z) h
 | @dK a aI ea =>
  cases (show u=Value.ref a from rx)
  obtain⟨_,_,vs,_,p⟩:=(show bP X.prog X.w H s.heap a (.dK aI) from I.bZ a _ ea)
  obtain⟨o,es,ep,h1,h2,_⟩:=p;exact zbl zfG I.kT ⟨o,h1,h2.1⟩ e (λz=>nomatch z) h
 | @dT a aI ea =>
  cases (show u=Value.ref a from rx)
  obtain⟨_,_,xs,_,o,es,ep,h1,h2,_⟩:=(show bP X.prog X.w H s.heap a (.dT aI) from I.bZ a _ ea)
  exact zbl zfG I.kT ⟨o,h1,h2.1⟩ e (λz=>nomatch z) h
 | @fH a C dx fs ea cl ha hn htk hm =>
  cases (show u=Value.ref a from rx)
  obtain⟨mA,O,_⟩:=sR I.bZ ea;obtain⟨od,J,_⟩:=O.Sw;exact zbl (PySem.W.kitx_own (cl.get _) cl.hd ha hn htk hm) I.kT J e (λz=>nomatch z) h
end
structure gU (k:Nat) (A:Around):Prop where
 hd:A.handled=none
 dp:A.depth+3 * k+5<recursionLimit
 un:A.units+16 * k+200<cLine
theorem gU.mono (r:gU k A)(h:j<=k):gU j A:=⟨r.hd,by have:=r.dp;omega,by have:=r.un;omega⟩
theorem gU.deeper (r:gU (k+1) A)(env:Env):gU k (A.deeper env):=
 ⟨r.hd,by have:=r.dp;show A.depth+1+3 * k+5<_;omega,by have:=r.un;show A.units+3+16 * k+200<_;omega⟩
theorem EX {A:Around}{C:Addr}{us:List Value}{kw:List (Str×Value)}:(A.under (.builtin "type.__call__" ⟨.ref C::us,kw⟩)).depth=A.depth+1:=by
 first|rfl|simp[Around.under,Code.weight,Code.isCreation,Code.isGuard,Code.isCaller,Code.frames,Code.isFrame,ahk]
theorem EY {A:Around}{C:Addr}{us:List Value}{kw:List (Str×Value)}:(A.under (.builtin "type.__call__" ⟨.ref C::us,kw⟩)).units=A.units+1:=by
 first|rfl|simp[Around.under,Code.cUnits,Code.frames,Code.isFrame]
theorem gU.Mn (r:gU (k+1) A)(C:Addr)(us:List Value)(kw:List (Str×Value)):gU k (A.under (.builtin "type.__call__" ⟨.ref C::us,kw⟩)):=
 ⟨r.hd,by have:=r.dp;rw[EX];omega,by have:=r.un;rw[EY];omega⟩
theorem gU.depth (r:gU k A):A.depth<recursionLimit:=by have:=r.dp;omega
def ahl:TA:=λ_ H Q=>Q [] H
def ahm (ta:TE)(tr:TA):TA:=λσ H Q=>ta σ H λx H1=>tr σ H1 λxs H2=>Q (x::xs) H2
theorem tT:PA X [] ahl:=λ_ _ _ _ H Q I h=>Calls.spliced_nil ⟨[],H,I,.nil,h⟩
theorem kX (ha:PE X e te)(hr:PA X es t)(hs:starEach (e::es) X.env=(false,eval e X.env)::starEach es X.env:=by rfl):PA X (e::es) (ahm te t):=by
 intro pos ah s σ H Q I h;rw[hs];show wpAny _ _ (spliced ((false,eval e X.env)::backTo pos (starEach es X.env))) _ _ s
 refine zdQ (cP (ha ah s σ H _ I h) λu s1 ⟨x,H1,I1,r1,q1⟩=>?_)
 exact cP (hr pos ah s1 σ H1 _ I1 q1) λus s2 ⟨xs,H2,I2,r2,q2⟩=>⟨x::xs,H2,I2,.cons r1 r2,q2⟩
def amC (t:TA):TE:=λσ H Q=>t σ H λxs H1=>xs.length<=sizeLine/\∀p,H1 p=none->Q (.ref p) (bf H1 p (.gn xs))
def amD (t:TA):TE:=λσ H Q=>t σ H λxs H1=>xs.length<=sizeLine/\∀p,H1 p=none->Q (.ref p) (bf H1 p (.bD xs))
theorem aaY {x1}(h:PA X es t):PE X (.Tuple es x1 pos) (amC t):=by
 intro ah s σ H Q I hq;refine wpAny_Tuple_spliced (cP (h pos ah s σ H _ I hq) λus s1 ⟨xs,H1,I1,r,z,q⟩=>⟨by rw[<-r.length];exact z,?_⟩)
 have hf:H1 s1.heap.objs.size=none:=I1.bZ.fresh (zaf _)
 refine⟨.ref s1.heap.objs.size,bf H1 s1.heap.objs.size (.gn xs),I1.iJ (t':=s1.toks) (λb u e=>zab _ e) (zaf _) ?_,rfl,q _ hf⟩
 exact⟨z,us,r,⟨_,zak _ rfl,rfl,_,rfl⟩⟩
theorem Mp (h:PA X es t):PE X (.List es pos) (amD t):=by
 intro ah s σ H Q I hq;refine wpAny_List_spliced (cP (h pos ah s σ H _ I hq) λus s1 ⟨xs,H1,I1,r,z,q⟩=>⟨by rw[<-r.length];exact z,?_⟩)
 have hf:H1 s1.heap.objs.size=none:=I1.bZ.fresh (zaf _)
 refine⟨.ref s1.heap.objs.size,bf H1 s1.heap.objs.size (.bD xs),I1.iJ (t':=s1.toks) (λb u e=>zab _ e) (zaf _) ?_,rfl,q _ hf⟩
 exact⟨z,us,0,r,zak _ rfl⟩
noncomputable abbrev Sp:=List V->Hp->VK->XK->Prop
noncomputable abbrev BV:=List Env->Hp->Shared->XK->Value->Shared->Prop
structure EZ (P:Program) (w:World) (K:PySem.W.Frag) (mg:Str->Option Value) (base:Heap) (A:Around) (outer:List Env) (s:Shared) (H:Hp):Prop where
 frames:A.frames=some outer
 tK:Mod K mg base
 bs:∀b o,base.get? b=some o->s.heap.get? b=some o/\H b=none
 RJ:base.objs.size<=s.heap.objs.size
 mD:s.heap.FunFrames base outer
 L1:∀b∈sP outer,H b=none
 bZ:nV P w H s.heap
 iX:AllBare s.gens
def CE (outer:List Env)(P:Program)(w:World)(H:Hp)(s:Shared)(Q:VK)(u:Value)(s':Shared):Prop:=
 ∃v H',s'.os=s.os/\AllBare s'.gens/\Un (sP outer) [] H H' s.heap s'.heap/\nV P w H' s'.heap/\bI v u/\Q v H'
def CR (CX:BV)(outer:List Env)(P:Program)(w:World)(H:Hp)(s:Shared)(Q:VK)(E:XK)(r:Result)(s':Shared):Prop:=
 match r with
 |.ok (.ret u)=>CE outer P w H s Q u s'
 |.ok _=>False
 |.error e=>CX outer H s E e s'
structure aP (P:Program) (w:World) (K:PySem.W.Frag) (mg:Str->Option Value) (base:Heap) (CX:BV) (k:Nat) (f:Addr) (fd:FuncData) (ps:List Str) (sp:Sp):Prop where
 len:∀vs H Q E,sp vs H Q E->vs.length=ps.length
 kY:∀(A:Around) (outer:List Env) (s:Shared) (H:Hp) (args:Args) (us:List Value) (vs:List V) (Q:VK) (E:XK),gU k A->EZ P w K mg base A outer s H->BindsTo s fd args (ps.zip us)->bE vs us->sp vs H Q E ->
  codeAny (model P w) A (.call (.ref f) args) (CR CX outer P w H s Q E) s
theorem aP.imp {P:Program}{w:World}{K:PySem.W.Frag}{mg:Str->Option Value}{base:Heap}{CX:BV}{k:Nat}{f:Addr}{fd:FuncData}{ps:List Str}{sp sp':Sp}(F:aP P w K mg base CX k f fd ps sp)
  (h:∀vs H Q E,sp' vs H Q E->sp vs H Q E):aP P w K mg base CX k f fd ps sp':=
 ⟨λvs H Q E q=>F.len vs H Q E (h _ _ _ _ q),λA outer s H args us vs Q E hr he hb hv hs=>F.kY A outer s H args us vs Q E hr he hb hv (h _ _ _ _ hs)⟩
theorem EZ.Mn {P:Program}{w:World}{K:PySem.W.Frag}{mg:Str->Option Value}{base:Heap}{A:Around}{outer:List Env}{s:Shared}{H:Hp}(e:EZ P w K mg base A outer s H)(C:Addr)(us:List Value)(kw:List (Str×Value)):
  EZ P w K mg base (A.under (.builtin "type.__call__" ⟨.ref C::us,kw⟩)) outer s H:=⟨by first|exact e.frames | (simpa[Around.under,Code.envs,Code.isFrame,ahn] using e.frames),e.tK,e.bs,e.RJ,e.mD,e.L1,e.bZ,e.iX⟩
theorem aH.BW (I:aH X ah σ H s):EZ X.prog X.w X.K X.mg X.base X.A X.dc s H:=
 ⟨I.ok.frames,I.ok.tK,I.bs,zah I.ok.RJ I.sz,I.dc,I.G1,I.bZ,I.iX⟩
theorem aH.after (I:aH X ah σ H s)(h:CE X.dc X.prog X.w H s Q u s'):EP X ah σ Q u s':=by
 obtain⟨v,H',os,iX,un,bZ,r,q⟩:=h;obtain⟨hh,g,d,t,os'⟩:=s';obtain rfl:os'=s.os:=os
 exact⟨v,H',I.call (h':=hh) (g':=g) (d':=d) (t':=t) (ch:=[]) un bZ iX (λb z=>absurd z (by simp)),r,q⟩
def WM (sp:Sp)(nF:List V)(E:XK)(t:TA):TE:=λσ H Q=>t σ H λvs H1=>sp (vs++nF) H1 Q E
def Hf (C:Addr)(m:Str)(sp:Sp)(nF:List V)(E:XK)(ta:TE)(t:TA):TE:=λσ H Q=>ta σ H λx H1=>∃a dx fs,x = .ref a/\H1 a=some (.fH C dx fs)/\fs.lookup m=none /\
 t σ H1 λvs H2=>sp (x::(vs++nF)) H2 Q E
def WN (C:Addr)(sp:Sp)(nF:List V)(E:XK)(t:TA):TE:=λσ H Q=>t σ H λvs H1=>∀x dx,H1 x=none->H1 dx=none->dx≠x ->
 sp (.ref x::(vs++nF)) (bf (bf H1 dx (.tF x)) x (.fH C dx [])) (λv H2=>v = .bq/\Q (.ref x) H2) E
def eW (K:PySem.W.Frag)(fd:FuncData)(ps:List Str)(ds:List Value):Prop:=
 ∀(s:Shared) (us:List Value),K.In s.heap->(us++ds).length=ps.length->BindsTo s fd ⟨us,[]⟩ (ps.zip (us++ds))
theorem eW.all {K:PySem.W.Frag}{fd:FuncData}{ps:List Str}(h:∀us:List Value,us.length=ps.length->bindArgs fd ⟨us,[]⟩=pure (ps.zip us)):eW K fd ps []:=λs us _ hl=>by
 rw[zax] at hl ⊢
 exact .of_eq (h us hl)
def gC (CX:BV)(X:Cx)(E:XK):Prop:=∀(ah:List (Addr×Obj)) (σ:St) (H:Hp) (s:Shared) (e:Value) (s':Shared),aH X ah σ H s->CX X.dc H s E e s'->X.xe e s'
section
variable {X:Cx}{CX:BV}{k:Nat}{f C:Addr}{fd:FuncData}{ps:List Str}{sp:Sp}{nF:List V}{ds:List Value}{E:XK}{x m:Str}{p pos eX:Pos}{e o:Expr}{es:List Expr}{ta:TE}{t:TA}
theorem E3 (F:aP X.prog X.w X.K X.mg X.base CX k f fd ps sp)(hr:gU k X.A)(hb:eW X.K fd ps ds)(hd:bE nF ds)(hx:gC CX X E)
  (I:aH X ah σ H s) (r:bE vs us) (h:sp (vs++nF) H Q E):wpAny (model X.prog X.w) X.A (call (.ref f) us) (EP X ah σ Q) X.xe s:=by
 have r2:bE (vs++nF) (us++ds):=r.je hd
 have hl:(us++ds).length=ps.length:=by rw[<-r2.length];exact F.len _ _ _ _ h
 refine zdj (zcp (F.kY X.A X.dc s H ⟨us,[]⟩ (us++ds) (vs++nF) Q E hr I.BW (hb s us I.kT hl) r2 h) λr s' hq=>?_)
 cases r with
 |error e=>exact hx ah σ H s e s' I hq
 |ok fl =>
  cases fl with
  |ret u=>exact I.after hq
  |next=>exact False.elim hq
  |brk=>exact False.elim hq
  |cont=>exact False.elim hq
theorem SH (F:aP X.prog X.w X.K X.mg X.base CX k f fd ps sp)(hr:gU k X.A)(hg:Gl X x)(hm:X.mg x=some (.ref f))(hk:PySem.W.keepIn X.K (.ref f)=true)(hb:eW X.K fd ps ds)(hd:bE nF ds)(hx:gC CX X E)
  (ha:PA X (e::es) t) (tU:(x == ("__debug__":Str))=false:=by decide) (he:starEach (e::es) X.env=(false,eval e X.env)::starEach es X.env:=by rfl) (hpl:(backTo pos (starEach es X.env)).any (·.1)=false:=by rfl):
  PE X (.Call (.Name x p) (e::es) [] pos) (WM sp nF E t):=by
 intro ah s σ H Q I h;refine zcB (nE I hg hm ?_ tU)
 refine zdd (h₀:= X.base) I.ok.tK.kin hk (cP (ha pos ah s σ H _ I h) λus s1 ⟨vs,H1,I1,r,q⟩=>⟨I1.kT,?_⟩) he hpl
 exact E3 F hr hb hd hx I1 r q
theorem SI (he:PE X o ta)(c:wZ X.K C)(hm:dJ X.K C m f)(F:aP X.prog X.w X.K X.mg X.base CX k f fd ps sp)(hr:gU k X.A)(hb:eW X.K fd ps ds)(hd:bE nF ds)(hx:gC CX X E)(ha:PA X (e::es) t)
  (om:starEach (e::es) X.env=(false,eval e X.env)::starEach es X.env:=by rfl) (hpl:(backTo pos (starEach es X.env)).any (·.1)=false:=by rfl)
  (ht:eval (.Call (.Attribute o m eX) (e::es) [] pos) X.env=(do
   let ov <-eval o X.env
   standAt eX.atName
   let (f,first) <-holding [ov] (getMethod ov m pl)
   callWith pos f first (backTo pos (starEach (e::es) X.env)) (backToKw pos (keywordEach [] X.env))):=by rfl):
  PE X (.Call (.Attribute o m eX) (e::es) [] pos) (Hf C m sp nF E ta t):=by
 intro ah s σ H Q I h;refine zdt (pl:=pl) (cP (he ah s σ H _ I h) λu s1 yy=>?_) ht;obtain⟨x,H1,I1,rx,a,dx,fs,ex,ea,l,q⟩:=yy
 subst ex;obtain rfl:u=Value.ref a:=rx
 refine oN I1 ea c hm l ?_
 refine zdd (first:=[.ref a]) (h₀:= X.base) I.ok.tK.kin hm.kp (cP (ha pos ah s1 σ H1 _ I1 q) λus s2 ⟨vs,H2,I2,r,q2⟩=>⟨I2.kT,?_⟩) om hpl
 exact E3 (us:=.ref a::us) (vs:=.ref a::vs) F hr hb hd hx I2 (.cons rfl r) q2
theorem Mq (he:PE X o ta)(c:wZ X.K C)(hm:dJ X.K C m f)(F:aP X.prog X.w X.K X.mg X.base CX k f fd ps sp)(hr:gU k X.A)(hb:eW X.K fd ps ds)(hd:bE nF ds)(hx:gC CX X E)
  (ht:eval (.Call (.Attribute o m eX) [] [] pos) X.env=(do
   let ov <-eval o X.env
   standAt eX.atName
   let (f,first) <-holding [ov] (getMethod ov m pl)
   callWith pos f first (backTo pos (starEach [] X.env)) (backToKw pos (keywordEach [] X.env))):=by rfl):
  PE X (.Call (.Attribute o m eX) [] [] pos) (Hf C m sp nF E ta ahl):=by
 intro ah s σ H Q I h;refine zdt (pl:=pl) (cP (he ah s σ H _ I h) λu s1 yy=>?_) ht;obtain⟨x,H1,I1,rx,a,dx,fs,ex,ea,l,q⟩:=yy
 subst ex;obtain rfl:u=Value.ref a:=rx
 refine oN I1 ea c hm l ?_
 exact PySem.W.callWith_K0 (first:=[.ref a]) I1.kT hm.kp (E3 (us:=[.ref a]) (vs:=[.ref a]) F hr hb hd hx I1 (.cons rfl .nil) q)
structure Mk (K:PySem.W.Frag) (C f:Addr):Prop where
 aho:PySem.W.makesIn K C=true
 init:PySem.W.findIn K (.ref C) "__init__"=some (some (.ref f))
 fn:PySem.W.isFn K (.ref f)=true
 kp:PySem.W.keepIn K (.ref C)=true
theorem Mr (M:Mk X.K C f)(F:aP X.prog X.w X.K X.mg X.base CX k f fd ps sp)(hr:gU (k+1) X.A)(hb:eW X.K fd ps ds)(hd:bE nF ds)
  (hx:gC CX X E) (I:aH X ah σ H s) (r:bE vs us)
  (h:∀x dx,H x=none->H dx=none->dx≠x->sp (.ref x::(vs++nF)) (bf (bf H dx (.tF x)) x (.fH C dx [])) (λv H2=>v = .bq/\Q (.ref x) H2) E):
  wpAny (model X.prog X.w) X.A (call (.ref C) us) (EP X ah σ Q) X.xe s:=by
 have hq:=h (s.heap.objs.size+1) s.heap.objs.size (I.bZ.fresh (zbc _)) (I.bZ.fresh (zaf _)) (zao (zbb _))
 have I2:=aH.made (C:=C) I
 have r2:bE (V.ref (s.heap.objs.size+1)::(vs++nF)) (Value.ref (s.heap.objs.size+1)::(us++ds)):=.cons rfl (r.je hd)
 have hl:(Value.ref (s.heap.objs.size+1)::us++ds).length=ps.length:=by
  have e:=r2.length;rw[F.len _ _ _ _ hq] at e;exact e.symm
 refine zdj (Mm (f:=f) I.kT M.aho M.init (beq_iff_eq.mp M.fn) (zcp (F.kY _ X.dc _ _ ⟨Value.ref (s.heap.objs.size+1)::us,[]⟩ (Value.ref (s.heap.objs.size+1)::(us++ds)) _ _ E (hr.Mn C us [])
  (I2.BW.Mn C us []) (hb _ (Value.ref (s.heap.objs.size+1)::us) I2.kT hl) r2 hq) λr s' Ms=>?_))
 cases r with
 |error e=>exact hx ah σ _ _ e s' I2 Ms
 |ok fl =>
  cases fl with
  |ret u =>
   obtain⟨v,H',I3,rv,ev,q3⟩:=I2.after Ms;subst ev;exact⟨rv,⟨V.ref (s.heap.objs.size+1),H',I3,rfl,q3⟩⟩
  |next=>exact False.elim Ms
  |brk=>exact False.elim Ms
  |cont=>exact False.elim Ms
theorem SJ (M:Mk X.K C f)(F:aP X.prog X.w X.K X.mg X.base CX k f fd ps sp)(hr:gU (k+1) X.A)(hg:Gl X x)(hm:X.mg x=some (.ref C))(hb:eW X.K fd ps ds)(hd:bE nF ds)(hx:gC CX X E)
  (ha:PA X (e::es) t) (tU:(x == ("__debug__":Str))=false:=by decide) (he:starEach (e::es) X.env=(false,eval e X.env)::starEach es X.env:=by rfl) (hpl:(backTo pos (starEach es X.env)).any (·.1)=false:=by rfl):
  PE X (.Call (.Name x p) (e::es) [] pos) (WN C sp nF E t):=by
 intro ah s σ H Q I h;refine zcB (nE I hg hm ?_ tU)
 refine zdd (h₀:= X.base) I.ok.tK.kin M.kp (cP (ha pos ah s σ H _ I h) λus s1 ⟨vs,H1,I1,r,q⟩=>⟨I1.kT,?_⟩) he hpl
 exact Mr M F hr hb hd hx I1 r q
end
section
variable {X:Cx}{CX:BV}{k:Nat}{f C:Addr}{fd:FuncData}{ps ks:List Str}{sp:Sp}{E:XK}{x m:Str}{p pos eX arh:Pos}{e o:Expr}{es:List Expr}{kws:List Keyword}{te ta:TE}{t tk:TA}{nm:Option Str}
end
structure au (N P:List Str) (sc:Scope):Prop where
 kind:sc.kind = .function
 co:sc.isCoroutine=false
 gen:sc.isGenerator=false
 nd:N.Nodup
 pre:N.take P.length=P
 par:∀x∈P,sc.names.lookup x=some .local\/sc.names.lookup x=some .cell
 aa0:∀y∈sc.names,y.2 ≠ .free
theorem yi {kindOf:Str->Option NameKind}{x:Str}:∀{rH:List (Str×Value)} {m:Str->Option Value},(∀v,(x,v)∉rH)->bindL kindOf rH m x=m x
 |[],_,_=>rfl
 | (n,v)::r,m,h=>by
  unfold bindL;rw[yi λw hw=>h w (zaJ _ hw)]
  split
  ·have:x≠n:=by rintro rfl;exact h v zbI
   simp[this]
  ·rfl
theorem yj {kindOf:Str->Option NameKind}{x:Str}:∀{rH:List (Str×Value)} {m:Str->Option Value},(∀v,(x,v)∉rH)->bindC kindOf rH m x=m x
 |[],_,_=>rfl
 | (n,v)::r,m,h=>by
  unfold bindC;rw[yj λw hw=>h w (zaJ _ hw)]
  split
  ·rfl
  ·have:x≠n:=by rintro rfl;exact h v zbI
   simp[this]
theorem yk {kindOf:Str->Option NameKind}{x:Str}{v:Value}:∀{P:List Str} {vs:List Value} {i:Nat} {m:Str->Option Value},P.Nodup->P[i]? = some x->vs[i]? = some v->kindOf x=some .local ->
  bindL kindOf (P.zip vs) m x=some v
 |[],_,_,_,_,h,_,_=>by simp at h
 |_::_,[],_,_,_,_,h,_=>by simp at h
 |p::P,w::vs,0,m,nd,h1,h2,hk=>by
  simp at h1 h2;subst h1;subst h2
  show bindL kindOf ((p,w)::P.zip vs) m p=_
  unfold bindL;rw[yi λv hv=>(zbE.mp nd).1 (zeC hv).1,if_pos hk]
  simp
 |p::P,w::vs,i+1,m,nd,h1,h2,hk=>by
  show bindL kindOf ((p,w)::P.zip vs) m x=_
  unfold bindL;exact yk (i:=i) (zbE.mp nd).2 (by simpa using h1) (by simpa using h2) hk
theorem ym {kindOf:Str->Option NameKind}{x:Str}{v:Value}:∀{P:List Str} {vs:List Value} {i:Nat} {m:Str->Option Value},P.Nodup->P[i]? = some x->vs[i]? = some v->kindOf x≠some .local ->
  bindC kindOf (P.zip vs) m x=some v
 |[],_,_,_,_,h,_,_=>by simp at h
 |_::_,[],_,_,_,_,h,_=>by simp at h
 |p::P,w::vs,0,m,nd,h1,h2,hk=>by
  simp at h1 h2;subst h1;subst h2
  show bindC kindOf ((p,w)::P.zip vs) m p=_
  unfold bindC;rw[yj λv hv=>(zbE.mp nd).1 (zeC hv).1,if_neg hk]
  simp
 |p::P,w::vs,i+1,m,nd,h1,h2,hk=>by
  show bindC kindOf ((p,w)::P.zip vs) m x=_
  unfold bindC;exact ym (i:=i) (zbE.mp nd).2 (by simpa using h1) (by simpa using h2) hk
noncomputable def cW (N:List Str)(vs:List V):St:=vs.map some++List.replicate (N.length - vs.length) none
noncomputable def jC (CX:BV)(P:Program)(w:World)(K:PySem.W.Frag)(mg:Str->Option Value)(base:Heap)(N:List Str)(bY:Str)(scope:Scope)(f:Addr)(cd:Value)(A:Around)(outer:List Env)(s:Shared)(H:Hp)(E:XK):Cx where
 prog:=P
 w:=w
 K:=K
 mg:=mg
 base:=base
 A:=A.deeper (envOfC bY scope s.heap.objs.size f cd)
 N:=N
 s₀:= s
 H₀:= H
 env:=envOfC bY scope s.heap.objs.size f cd
 outer:=outer
 dc:=envOfC bY scope s.heap.objs.size f cd::outer
 ex:=[]
 d9:=true
 fn:=λ_=>true
 pn:=[]
 xe:=λe s'=>wpAny (model P w) (A.deeper (envOfC bY scope s.heap.objs.size f cd)) (leaving (envOfC bY scope s.heap.objs.size f cd) e) (λ_ s''=>CX outer H s E e s'') (λe' s''=>CX outer H s E e' s'') s'
theorem BX {sc:Scope}{n:Nat}{x:Str}(h:sc.names.lookup x=some .cell):∃c,(cellsFrom n sc.names []).lookup x=some c:=by
 have q:=zeL sc.names n [] (.inl h)
 exact zcq.mp q
theorem JJ {CX:BV}{P:Program}{w:World}{K:PySem.W.Frag}{mg:Str->Option Value}{base:Heap}{N ps:List Str}{bY:Str}{scope:Scope}{f:Addr}{cd:Value}{A:Around}{outer:List Env}{s s1:Shared}{H:Hp}{E:XK}{us:List Value}{vs:List V}
  (S:au N ps scope) (hd:A.handled=none) (e0:EZ P w K mg base A outer s H) (hl:vs.length=ps.length) (r:bE vs us)
  (x:InCallC s s.heap.objs.size (bindL (envOfC bY scope s.heap.objs.size f cd).kindOf (ps.zip us) λ_=>none) (cellsFrom (s.heap.objs.size+1) scope.names []) (bindC (envOfC bY scope s.heap.objs.size f cd).kindOf (ps.zip us) λ_=>none) s1):
  aH (jC CX P w K mg base N bY scope f cd A outer s H E) [] (cW N vs) H s1:=by
 have hpl:ps.length<=N.length:=by have:=congrArg List.length S.pre;rw[zaU] at this;omega
 obtain⟨h1,tk,rfl,hk⟩:=x.done;have noA:∀b:Addr,b∉(jC CX P w K mg base N bY scope f cd A outer s H E).ex:=λb z=>absurd (show b∈([]:List Addr) from z) (by simp)
 refine⟨⟨e0.tK,S.kind,rfl,rfl,zaf _,λy z c h1 h2=>?_,λy hy=>?_,λy c _ h=>?_,λ_=>hd,Around.frames_deeper e0.frames,.inr ⟨rfl,rfl⟩,λb z=>absurd z (noA b),e0.bs,e0.RJ,λb _ _=>noA b,λb z=>absurd z (noA b),e0.mD,e0.L1⟩,
  rfl,e0.iX,Un.eU hk,⟨_,x.toInCall.ns,λi y v h1 h2 h3=>?_⟩,λy c h=>⟨_,x.cell y c h⟩,e0.bZ.fresh (zaf _),λy c h=>?_,λp hp=>absurd (show p∈([]:List (Addr×Obj)) from hp) (by simp),e0.bZ.eU hk,?_⟩
 ·exact name_of_addr x.apart (zbf h1) (zbf h2)
 ·have hy:scope.names.lookup y=some .cell\/scope.names.lookup y=some .free:=hy
  rcases hy with hy|hy
  ·exact BX hy
  ·exact absurd rfl (S.aa0 _ (zbf hy))
 ·exact zdw (x.above y c (zbf h))
 ·have hi:i<vs.length:=by
   unfold cW at h2;by_cases hi:i<vs.length
   ·exact hi
   ·rw[zau (by simpa using hi)] at h2
    rw[zdm] at h2;split at h2<;>cases h2
  have ha:vs[i]? = some v:=by
   unfold cW at h2;rw[zal (by simpa using hi),zar] at h2
   cases e:vs[i]? with
   |none=>rw[e] at h2;cases h2
   |some a=>rw[e] at h2;cases h2;rfl
  obtain⟨u,hu,rv⟩:=r.get ha;have hp:ps[i]? = some y:=by
   rw[<-S.pre,zbN (by omega)];exact h1
  have ndP:ps.Nodup:=by rw[<-S.pre];exact S.nd.sublist (List.take_sublist _ _)
  refine⟨u,rv,?_⟩
  rcases S.par y (zaZ hp) with k|k
  ·exact .inl ⟨k,yk ndP hp hu k⟩
  ·obtain⟨c,e⟩:=BX (n:=s.heap.objs.size+1) k
   refine .inr ⟨.inl k,c,e,?_⟩
   have q:=x.cell y c e;rw[ym ndP hp hu (by show scope.names.lookup y≠_;rw[k];decide)] at q
   exact q
 ·exact e0.bZ.fresh (zdw (x.above y c (zbf h)))
 ·unfold cW
  show _=N.length
  rw[zan,zad,List.length_replicate];omega
theorem Mt {CX:BV}{P:Program}{w:World}{K:PySem.W.Frag}{mg:Str->Option Value}{base:Heap}{k:Nat}{f:Addr}{name bY:Str}{params:Arguments}{body:List Stmt}{scope:Scope}{dV kV oO pm fG ct oc:Value}{an od:Option Addr}
  {E4:Array (Option Value)} {N ps:List Str} {sp:Sp} (lk:K.lookup f=some ⟨oc,od,.func (PySem.W.fnOf name bY params body scope dV kV oO pm an fG ct),E4⟩) (BQ:PySem.W.codeIn K fG bY=true) (S:au N ps scope)
  (len:∀vs H Q E,sp vs H Q E->vs.length=ps.length)
  (tV:∀(A:Around) (outer:List Env) (s:Shared) (H:Hp) (vs:List V) (Q:VK) (E:XK),gU k (A.deeper (envOfC bY scope s.heap.objs.size f fG))->sp vs H Q E ->
   ∃t,yf (jC CX P w K mg base N bY scope f fG A outer s H E) body t/\t {nx:=λ_ H'=>Q .bq H',rt:=Q} (cW N vs) H):
  aP P w K mg base CX (k+1) f (PySem.W.fnOf name bY params body scope dV kV oO pm an fG ct) ps sp:=by
 refine⟨len,λA outer s H args us vs Q E hr e0 hb r LH=>?_⟩
 have hl:=len _ _ _ _ LH;have KX:K.In s.heap:=e0.tK.kin.keeps λb o e=>(e0.bs b o e).1
 have lim:s.heap.NoLimit:=e0.tK.nolimit.keeps λb o e=>(e0.bs b o e).1
 have ahq:∀y∈ps.zip us,scope.names.lookup y.1=some .local\/(scope.names.lookup y.1=some .cell/\((cellsFrom (s.heap.objs.size+1) scope.names []).lookup y.1).isSome=true):=λ⟨n,v⟩ hy=>by
  rcases S.par n (zeC hy).1 with q|q
  ·exact .inl q
  ·exact .inr ⟨q,zeL _ _ _ (.inl q)⟩
 refine codeAny_call_function hr.depth (KX _ _ lk) rfl S.co S.gen rfl (PySem.W.codeRec_of KX BQ) (hb _ _ _ _ ?_)
 refine wpAny_newFunctionEnv_cells S.kind ahq λenv he s1 x=>?_
 subst he;refine⟨lim.keeps x.toInCall.keep,codeAny_func ?_⟩
 obtain⟨t,ht,hq⟩:=tV A outer s H vs Q E (hr.deeper _) LH
 have I:aH (jC CX P w K mg base N bY scope f fG A outer s H E) [] (cW N vs) H s1:=JJ S hr.hd e0 hl r x
 refine zaO (ht [] s1 (cW N vs) H _ I hq) (λfl s' hs=>?_) λe s' hs=>hs
 have fP:∀{eV:St} {H':Hp} {v:V} {u:Value},aH (jC CX P w K mg base N bY scope f fG A outer s H E) [] eV H' s'->bI v u->Q v H'->CE outer P w H s Q u s':=
  λ{eV H' v u} J rv q=>⟨v,H',J.os,J.iX,J.base,J.bZ,rv,q⟩
 cases fl with
 |ret u =>
  obtain⟨v,eV,H',J,rv,q⟩:=hs;exact fP J rv q
 |next =>
  obtain⟨eV,H',J,q⟩:=hs;exact fP (v:=V.bq) (u:=Value.none) J rfl q
 |brk =>
  obtain⟨_,_,_,q⟩:=hs;exact False.elim q
 |cont =>
  obtain⟨_,_,_,q⟩:=hs;exact False.elim q
section
variable {X:Cx}{x:Str}{p pos:Pos}{e:Expr}{es:List Expr}{t:TA}{id T:String}{r:List V->Hp->VK->Prop}
def tCB (r:List V->Hp->VK->Prop)(t:TA):TE:=λσ H Q=>t σ H λvs H1=>r vs H1 Q
theorem tW (hc:ig X (.builtin id) r)(hg:Gl X x)(hm:X.mg x=none)(hv:bootBuiltins x=some (.builtin id))(ha:PA X (e::es) t)(hn:x ≠ "__name__" := by decide)(tU:(x == ("__debug__":Str))=false:=by decide)
  (he:starEach (e::es) X.env=(false,eval e X.env)::starEach es X.env:=by rfl) (hpl:(backTo pos (starEach es X.env)).any (·.1)=false:=by rfl):PE X (.Call (.Name x p) (e::es) [] pos) (tCB r t):=by
 intro ah s σ H Q I h;refine zcB (tM I hg hm hv ?_ hn tU)
 exact PyProof.Rows.callWith_builtin1 (cP (ha pos ah s σ H _ I h) λus s1 ⟨vs,H1,I1,r1,q1⟩=>hc ah s1 σ H1 vs us Q I1 r1 q1) he hpl
theorem yo (hc:ig X (.type T) r)(hg:Gl X x)(hm:X.mg x=none)(hv:bootBuiltins x=some (.type T))(ha:PA X (e::es) t)(hn:x ≠ "__name__" := by decide)(tU:(x == ("__debug__":Str))=false:=by decide)
  (he:starEach (e::es) X.env=(false,eval e X.env)::starEach es X.env:=by rfl) (hpl:(backTo pos (starEach es X.env)).any (·.1)=false:=by rfl):PE X (.Call (.Name x p) (e::es) [] pos) (tCB r t):=by
 intro ah s σ H Q I h;refine zcB (tM I hg hm hv ?_ hn tU)
 exact zcN (cP (ha pos ah s σ H _ I h) λus s1 ⟨vs,H1,I1,r1,q1⟩=>hc ah s1 σ H1 vs us Q I1 r1 q1) he hpl
end
section
variable {κ:Type}[DecidableEq κ]
noncomputable def mE (aI:List (κ × V))(k:κ):Option V:=(aI.find? λkv=>decide (kv.1=k)).map (·.2)
noncomputable def kg (aI:List (κ × V))(k:κ)(v:V):List (κ × V):=
 if (aI.any λkv=>decide (kv.1=k))=true then aI.map (λkv=>if kv.1=k then (kv.1,v) else kv) else aI++[(k,v)]
theorem pD {p:κ × V}{r:List (κ × V)}{k:κ}(e:p.1=k):mE (p::r) k=some p.2:=by simp[mE,zcC,e]
theorem pF {p:κ × V}{r:List (κ × V)}{k:κ}(e:¬ p.1=k):mE (p::r) k=mE r k:=by simp[mE,zcC,e]
theorem BY (k:κ):∀aI:List (κ × V),(aI.any λkv=>decide (kv.1=k))=(mE aI k).isSome
 |[]=>rfl
 |p::r=>by
  rw[zcy];by_cases e:p.1=k
  ·simp only[pD e,decide_eq_true e,Bool.true_or,zfu]
  ·rw[pF e,decide_eq_false e,Bool.false_or];exact BY k r
theorem mO (aI:List (κ × V))(k:κ)(v:V):(kg aI k v).length<=aI.length+1:=by
 unfold kg;split
 ·rw[zad];omega
 ·rw[zan,zas,zbm];omega
theorem jf.kh (r:jf o u):o.isSome=u.isSome:=by
 cases o with
 |none=>cases u with
  |none=>rfl
  |some _=>exact (show False from r).elim
 |some _=>cases u with
  |none=>exact (show False from r).elim
  |some _=>rfl
theorem jf.getD (r:jf o u)(rd:bI d d'):bI (o.getD d) (u.getD d'):=by
 cases o with
 |none=>cases u with
  |none=>exact rd
  |some _=>exact (show False from r).elim
 |some _=>cases u with
  |none=>exact (show False from r).elim
  |some _=>exact r
theorem KV.val {aI:List (κ × V)}{vs:List (κ × Value)}(r:KV aI vs)(k:κ):jf (mE aI k) (valueAt vs k):=by
 unfold KV at r;induction r with
 |nil=>exact True.intro
 | @cons p q ps qs h t ih =>
  obtain⟨h1,h2⟩:=h;by_cases e:p.1=k
  ·have e':q.1=k:=h1.symm.trans e
   have b:valueAt (q::qs) k=some q.2:=by simp[valueAt,zcC,e']
   rw[pD e,b];exact h2
  ·have e':¬ q.1=k:=λz=>e (h1.trans z)
   have b:valueAt (q::qs) k=valueAt qs k:=by simp[valueAt,zcC,e']
   rw[pF e,b];exact ih
theorem KV.any (r:KV aI vs)(k:κ):(aI.any λkv=>decide (kv.1=k))=vs.any λkv=>decide (kv.1=k):=by
 unfold KV at r;induction r with
 |nil=>rfl
 |cons h t ih=>rw[zcy,zcy,ih,h.1]
theorem KV.aa2 (r:KV aI vs)(k:κ)(ry:bI y u):
  KV (aI.map λkv=>if kv.1=k then (kv.1,y) else kv) (vs.map λkv=>if kv.1=k then (kv.1,u) else kv):=by
 unfold KV at r ⊢
 induction r with
 |nil=>exact .nil
 | @cons p q ps qs h t ih =>
  rw[zat,zat];refine .cons ?_ ih
  obtain⟨h1,h2⟩:=h;by_cases e:p.1=k
  ·rw[if_pos e,if_pos (h1.symm.trans e)];exact⟨h1,ry⟩
  ·rw[if_neg e,if_neg (λz=>e (h1.trans z))];exact⟨h1,h2⟩
theorem KV.put (r:KV aI vs)(k:κ)(ry:bI y u):KV (kg aI k y) (stored vs k u):=by
 unfold kg stored;rw[r.any k];by_cases e:(vs.any λkv=>decide (kv.1=k))=true
 ·rw[if_pos e,if_pos e];exact r.aa2 k ry
 ·rw[if_neg e,if_neg e];exact Paired.snoc r ⟨rfl,ry⟩
theorem KV.sA {aI:List (κ × V)}{vs:List (κ × Value)}(r:KV aI vs):aI.map (·.1)=vs.map (·.1):=by
 unfold KV at r;induction r with
 |nil=>rfl
 |cons h t ih=>rw[zat,zat,ih,h.1]
theorem KV.length (r:KV aI vs):aI.length=vs.length:=Paired.length r
end
theorem rJ (r:bI (kV k) u):(bS P w).is k u=true:=by
 cases k with
 |inl i=>obtain⟨t,e⟩:=(show ∃t,u=Value.int i t from r);subst e;exact BJ P w i t
 |inr x=>obtain⟨t,e⟩:=(show ∃t,u=Value.str x t from r);subst e;exact BK P w x t
theorem yq:∀{ks:List dF} {us:List Value},bE (ks.map kV) us->ItemsAre (bS P w) ks us
 |[],_,r=>by rw[zcc] at r;cases r;exact .nil
 |k::ks,_,r=>by
  rw[zat] at r;cases r with
  |cons h t=>exact .cons (rJ h) (yq t)
noncomputable abbrev KT (H:Hp):List (List dF×V)->List (List dF×Addr×Value)->Prop:=Paired λp q=>p.1=q.1/\H q.2.1=some (.gn (p.1.map kV))/\bI p.2 q.2.2
theorem KT.val (r:KT H aI xs)(k:List dF):jf (mE aI k) ((atKey xs k).map (·.2)):=by
 induction r with
 |nil=>exact True.intro
 | @cons p q ps qs h t ih =>
  obtain⟨h1,_,h2⟩:=h;by_cases e:p.1=k
  ·have e':q.1=k:=h1.symm.trans e
   have b:atKey (q::qs) k=some q.2:=by simp[atKey,zcC,e']
   rw[pD e,b];exact h2
  ·have e':¬ q.1=k:=λz=>e (h1.trans z)
   have b:atKey (q::qs) k=atKey qs k:=by simp[atKey,zcC,e']
   rw[pF e,b];exact ih
theorem KT.aa2 (r:KT H aI xs)(k:List dF)(ry:bI y u):
  KT H (aI.map λkv=>if kv.1=k then (kv.1,y) else kv) (xs.map (putAt k u)):=by
 induction r with
 |nil=>exact .nil
 | @cons p q ps qs h t ih =>
  rw[zat,zat];refine .cons ?_ ih
  obtain⟨h1,h2,h3⟩:=h;unfold putAt;by_cases e:p.1=k
  ·rw[if_pos e,if_pos (h1.symm.trans e)];exact⟨h1,h2,ry⟩
  ·rw[if_neg e,if_neg (λz=>e (h1.trans z))];exact⟨h1,h2,h3⟩
theorem KT.put (r:KT H aI xs)(k:List dF)(hb:H b=some (.gn (k.map kV)))(ry:bI y u):
  KT H (kg aI k y) (storedH xs k b u):=by
 have e:(aI.any λkv=>decide (kv.1=k))=(atKey xs k).isSome:=by
  rw[BY,(r.val k).kh,zdY]
 unfold kg storedH;rw[e];by_cases q:(atKey xs k).isSome=true
 ·rw[if_pos q,if_pos q];exact r.aa2 k ry
 ·rw[if_neg q,if_neg q];exact Paired.snoc r ⟨rfl,hb,ry⟩
theorem KT.keeps (r:KT H aI xs)(ht:∀b ys,H b=some (.gn ys)->H' b=some (.gn ys)):KT H' aI xs:=
 Paired.agJ r λ_ _ z=>⟨z.1,ht _ _ z.2.1,z.2.2⟩
theorem WO (ok:nV P w H h)(e:Rd H a u):bP P w H h a u:=e.ok ok
theorem rK (ok:nV P w H h)(e:Rd H a (.dK aI)):aI.length<=sizeLine/\(a == sysModules)=false/\∃vs,KV aI vs/\h.DictOf (bS P w) a vs:=
 show bP P w H h a (.dK aI) from WO ok e
theorem WQ (ok:nV P w H h)(e:H a=some (.dK aI)):aI.length<=sizeLine/\(a == sysModules)=false/\∃vs,KV aI vs/\h.DictOf (bS P w) a vs:=rK ok (.inl e)
theorem qJ (ok:nV P w H h)(e:H a=some (.gn (ks.map kV))):(tupleKind (bS P w)).is h ks a:=by
 obtain⟨_,aJ,r,o,h1,h2,n,h3⟩:=(show bP P w H h a (.gn (ks.map kV)) from ok a _ e)
 exact⟨o,aJ.toArray,n,h1,h2,h3,by simpa using yq r⟩
theorem tX (ok:nV P w H h)(e:Rd H a (.dT aI)):aI.length<=sizeLine/\(a == sysModules)=false /\
  ∃xs,KT H aI xs/\h.DictOfH (tupleKind (bS P w)) a xs:=by
 obtain⟨z,y,xs,r,o,es,ep,h1,h2,h3,h4,h5⟩:=(show bP P w H h a (.dT aI) from WO ok e)
 refine⟨z,y,xs,r,o,es,ep,h1,h2,h3,h4,λx hx=>?_,h5⟩
 have all:∀{l:List (List dF×V)} {m:List (List dF×Addr×Value)},KT H l m->∀x∈m,(tupleKind (bS P w)).is h x.1 x.2.1:=by
  intro l m q;induction q with
  |nil=>intro x hx;exact nomatch hx
  | @cons p q ps qs hq t ih =>
   intro x hx;rcases zam.mp hx with e|hx
   ·subst e
    exact qJ ok (by rw[<-hq.1];exact hq.2.1)
   ·exact ih x hx
 exact all r x hx
theorem ahr (ok:nV P w H h)(e:H a=some (.dT aI)):aI.length<=sizeLine/\(a == sysModules)=false /\
  ∃xs,KT H aI xs/\h.DictOfH (tupleKind (bS P w)) a xs:=tX ok (.inl e)
def mP (H:Hp)(a:Addr)(y:V)(r:Option V):Prop:=
 (∃aI k,Rd H a (.dK aI)/\y=kV k/\r=mE aI k)\/∃aI k b,Rd H a (.dT aI)/\y = .ref b/\H b=some (.gn (k.map kV))/\r=mE aI k
def tY (H:Hp)(a:Addr)(y v:V)(H':Hp):Prop:=
 (∃aI k,H a=some (.dK aI)/\y=kV k/\aI.length<sizeLine/\H'=bf H a (.dK (kg aI k v))) \/
 ∃aI k b,H a=some (.dT aI)/\y = .ref b/\H b=some (.gn (k.map kV))/\aI.length<sizeLine/\H'=bf H a (.dT (kg aI k v))
theorem mP.k {H:Hp}{a:Addr}{aI:List (dF×V)}{k:dF}(e:H a=some (.dK aI)):mP H a (kV k) (mE aI k):=.inl ⟨aI,k,.inl e,rfl,rfl⟩
theorem tY.k {H:Hp}{a:Addr}{aI:List (dF×V)}{k:dF}{v:V}(e:H a=some (.dK aI))(hl:aI.length<sizeLine):tY H a (kV k) v (bf H a (.dK (kg aI k v))):=.inl ⟨aI,k,e,rfl,hl,rfl⟩
theorem tY.t {H:Hp}{a b:Addr}{aI:List (List dF×V)}{k:List dF}{v:V}(e:H a=some (.dT aI))(eb:H b=some (.gn (k.map kV)))(hl:aI.length<sizeLine):
  tY H a (.ref b) v (bf H a (.dT (kg aI k v))):=.inr ⟨aI,k,b,e,rfl,eb,hl,rfl⟩
theorem aH.big (I:aH X ah σ H s):sysModules<s.heap.objs.size:=by
 have h:mainGlobals<s.heap.objs.size:=(I.tK.tH.keeps I.bk).lt
 exact zeo (by decide) h
theorem JK (hu:A.units+1<cLine)(I:aH X ah σ H s)(g:mP H a y (some v))(ry:bI y u)(h:∀w' s',aH X ah σ H s'->bI v w'->Q w' s'):
  wpAny (model X.prog X.w) A (getItem (.ref a) u) Q E s:=by
 rcases g with⟨aI,k,e,ey,l⟩|⟨aI,k,b,e,ey,eb,l⟩
 ·subst ey
  obtain⟨z,hd,vs,jF,dd⟩:=rK I.bZ e;obtain⟨w',hw,z9⟩:=jf.z_ (v:=v) (o:=valueAt vs k) (by rw[l];exact jF.val k)
  exact wpAny_getItem_of (rJ ry) dd.mapOf hw (h w' _ (I.o9 _) z9)
 ·subst ey
  cases (show u=Value.ref b from ry)
  obtain⟨z,hd,xs,jF,dd⟩:=tX I.bZ e;obtain⟨w',hw,z9⟩:=jf.z_ (v:=v) (o:=(atKey xs k).map (·.2)) (by rw[l];exact jF.val k)
  obtain⟨p,hp,hp2⟩:=zca.mp hw;refine wpAny_getItem_heap (zcD hu) (qJ I.bZ eb) dd hp ?_
  rw[hp2];exact h w' _ (I.o9 _) z9
theorem amF (hu:A.units+1<cLine)(I:aH X ah σ H s)(g:mP H a y o)(ry:bI y u)(h:∀s',aH X ah σ H s'->Q (.bool o.isSome) s'):
  wpAny (model X.prog X.w) A (compareOp .In u (.ref a)) Q E s:=by
 rcases g with⟨aI,k,e,ey,l⟩|⟨aI,k,b,e,ey,eb,l⟩
 ·subst ey
  obtain⟨z,hd,vs,jF,dd⟩:=rK I.bZ e;refine wpAny_in_of (rJ ry) hd dd.mapOf ?_
  rw[<-(jF.val k).kh,<-l];exact h _ (I.o9 _)
 ·subst ey
  cases (show u=Value.ref b from ry)
  obtain⟨z,hd,xs,jF,dd⟩:=tX I.bZ e;refine wpAny_in_heap (zcD hu) (qJ I.bZ eb) hd dd ?_
  have q:=(jF.val k).kh
  rw[zdY] at q;rw[<-q,<-l];exact h _ (I.o9 _)
theorem SK (hu:A.units+1<cLine)(I:aH X ah σ H s)(g:mP H a y o)(ry:bI y u)(h:∀s',aH X ah σ H s'->Q (.bool (!o.isSome)) s'):
  wpAny (model X.prog X.w) A (compareOp .NotIn u (.ref a)) Q E s:=by
 rcases g with⟨aI,k,e,ey,l⟩|⟨aI,k,b,e,ey,eb,l⟩
 ·subst ey
  obtain⟨z,hd,vs,jF,dd⟩:=rK I.bZ e;refine wpAny_notIn_of (rJ ry) hd dd.mapOf ?_
  rw[<-(jF.val k).kh,<-l];exact h _ (I.o9 _)
 ·subst ey
  cases (show u=Value.ref b from ry)
  obtain⟨z,hd,xs,jF,dd⟩:=tX I.bZ e;refine wpAny_notIn_heap (zcD hu) (qJ I.bZ eb) hd dd ?_
  have q:=(jF.val k).kh
  rw[zdY] at q;rw[<-q,<-l];exact h _ (I.o9 _)
theorem Aa (I:aH X ah σ H s)(mu:Mut (H a))(hs:Heap.SameBut a s.heap h')(he:∃q,h'.get? a=some q)(new:bP X.prog X.w (bf H a ob) h' a ob):
  aH X ah σ (bf H a ob) {s with heap:=h',toks:=t' }:=
 I.j6 (x:=a) (e:=a) mu (.inl rfl) (λb q hb z=>(hs.2 b hb).trans z) he new
theorem Mu (z:aI.length<=sizeLine)(hd:(a == sysModules)=false)(jF:KV aI vs)(dd:h'.DictOf (bS P w) a vs):
  bP P w H' h' a (.dK aI):=⟨z,hd,vs,jF,dd⟩
theorem JL (hu:A.units+1<cLine)(I:aH X ah σ H s)(g:tY H a y v H')(ry:bI y u)(rv:bI v r)(h:∀s',aH X ah σ H' s'->Q () s'):
  wpAny (model X.prog X.w) A (setItem (.ref a) u r) Q E s:=by
 rcases g with⟨aI,k,e,ey,l,eH⟩|⟨aI,k,b,e,ey,eb,l,eH⟩
 ·subst ey eH
  obtain⟨z,hd,vs,jF,dd⟩:=WQ I.bZ e;have hz:vs.length<=sizeLine:=by rw[<-jF.length];exact z
  have hl:(kg aI k v).length<=sizeLine:=by have:=mO aI k v;omega
  refine wpAny_setItem_pairs (hsz:=hz) (rJ ry) dd λh' BE hs=>h _ ?_
  have he:∃q,h'.get? a=some q:=let ⟨q,_,_,hq,_⟩:=BE;⟨q,hq⟩
  exact Aa I (by rw[e];exact True.intro) hs he (Mu hl hd (jF.put k rv) BE)
 ·subst ey eH
  cases (show u=Value.ref b from ry)
  obtain⟨z,hd,xs,jF,dd⟩:=ahr I.bZ e;have hz:xs.length<=sizeLine:=by rw[<-Paired.length jF];exact z
  have hl:(kg aI k v).length<=sizeLine:=by have:=mO aI k v;omega
  refine wpAny_setItem_heap (hsz:=hz) (zcD hu) (qJ I.bZ eb) dd λh' BE hs=>h _ ?_
  obtain⟨q,es,ep,hq,h2,h3,h4,_,h5⟩:=BE;refine Aa I (by rw[e];exact True.intro) hs ⟨q,hq⟩ ⟨hl,hd,_,(jF.put k eb rv).keeps λc ys ec=>?_,q,es,ep,hq,h2,h3,h4,h5⟩
  rw[av (agI ec e (λz=>nomatch z))]
  exact ec
theorem ahs (I:aH X ah σ H s)(e:Rd H a (.dK aI))(h:∀t s',aH X ah σ H s'->Q (.int aI.length t) s'):wpAny (model X.prog X.w) A (call (.builtin "len") [.ref a]) Q E s:=by
 obtain⟨z,hd,vs,jF,dd⟩:=rK I.bZ e;refine call_len_dict hd dd (by rw[<-jF.length];rw[zbk] at z;omega) ?_
 rw[<-jF.length];exact h _ _ (I.o9 _)
def SM (i:Expr):Prop:=∀ov iv,subscripted i false ov iv=operate [ov,iv] (getItem ov iv)
theorem SN {prog:Program}{w:World}{A:Around}{E:Value->Shared->Prop}{s:Shared}{env:Env}{value slice:Expr}{pos:Pos}{T id:String}{Q:Value->Shared->Prop}
  (hl:typeLookup (.type T) "__getitem__"=pure (some (.builtin id))) (hs:SM slice)
  (h:wpAny (model prog w) A (eval value env) (λo cD=>wpAny (model prog w) A (eval slice env) (λi j7=>j7.TypeIs o T/\wpAny (model prog w) A (getItem o i) Q E j7) E cD) E s):
  wpAny (model prog w) A (eval (.Subscript value slice pos) env) Q E s:=by
 refine Subscript_ (zaO h (λo cD SO=>zaO SO (λi j7 Mv=>?_) λ_ _ x=>x) λ_ _ x=>x)
 obtain⟨hT,Mv⟩:=Mv;unfold subscriptTail;refine zaa ?_
 rw[getitemInPython_of_ne hT.not_modules];refine zaa (zdy hT hl ?_)
 have fP:wpAny (model prog w) A (subscripted slice false o i) (λr xm=>wpAny (model prog w) A (letTemporaryGo value o r >>= λ_=>pure r) Q E xm) E j7:=by
  rw[hs o i];exact wpAny_operating (zaO Mv (λr xm SQ=>zaa (wpAny_letTemporaryGo (zac SQ))) λ_ _ x=>x)
 first
  |exact zac (zaa fP)
  |exact zaa (zac (zaa fP))
  |exact zaa fP
theorem BZ (I:aH X ah σ H s)(g:mP H a y o):s.TypeIs (.ref a) "dict" := by
 rcases g with⟨aI,k,e,_,_⟩|⟨aI,k,b,e,_,_,_⟩
 ·obtain⟨_,_,vs,_,dd⟩:=rK I.bZ e
  exact dd.typeIs
 ·obtain⟨_,_,xs,_,dd⟩:=tX I.bZ e
  exact dd.typeIs
def aht (td ty:TE):TE:=λσ H Q=>td σ H λx H1=>ty σ H1 λy H2=>∃a v,x = .ref a/\mP H2 a y (some v)/\Q v H2
def aa3 (ty td:TE):TE:=λσ H Q=>ty σ H λy H1=>td σ H1 λx H2=>∃a o,x = .ref a/\mP H2 a y o/\Q (.bl o.isSome) H2
def Ab (ty td:TE):TE:=λσ H Q=>ty σ H λy H1=>td σ H1 λx H2=>∃a o,x = .ref a/\mP H2 a y o/\Q (.bl (!o.isSome)) H2
def ahu (td ty tv:TE):TS:=λD σ H=>tv σ H λv H1=>td σ H1 λx H2=>ty σ H2 λy H3=>∃a H4,x = .ref a/\tY H3 a y v H4/\D.nx σ H4
theorem Hg (hu:X.A.units+1<cLine)(ho:PE X o td)(hi:PE X i ty)(hs:SM i):PE X (.Subscript o i pos) (aht td ty):=by
 intro ah s σ H Q I h;refine SN PySem.F.slot_dict_getitem.lookup hs (cP (ho ah s σ H _ I h) λu s1 ⟨x,H1,I1,rx,q1⟩=>cP (hi ah s1 σ H1 _ I1 q1) λiv s2 yy=>?_);obtain⟨y,H2,I2,ry,a,v,ex,g,q2⟩:=yy
 subst ex;obtain rfl:u=Value.ref a:=rx
 exact⟨BZ I2 g,JK hu I2 g ry λw' s3 I3 z9=>⟨v,H2,I3,z9,q2⟩⟩
theorem Mw (hu:X.A.units+1<cLine)(hi:PE X i ty)(ho:PE X o td):PC X .In i o (aa3 ty td):=by
 intro ah s σ H Q I h;refine cP (hi ah s σ H _ I h) λiv s1 ⟨y,H1,I1,ry,q1⟩=>cP (ho ah s1 σ H1 _ I1 q1) λu s2 yy=>?_;obtain⟨x,H2,I2,rx,a,ov,ex,g,q2⟩:=yy
 subst ex;obtain rfl:u=Value.ref a:=rx
 exact amF hu I2 g ry λs3 I3=>⟨.bl ov.isSome,H2,I3,rfl,q2⟩
theorem JM (hu:X.A.units+1<cLine)(hi:PE X i ty)(ho:PE X o td):PC X .NotIn i o (Ab ty td):=by
 intro ah s σ H Q I h;refine cP (hi ah s σ H _ I h) λiv s1 ⟨y,H1,I1,ry,q1⟩=>cP (ho ah s1 σ H1 _ I1 q1) λu s2 yy=>?_;obtain⟨x,H2,I2,rx,a,ov,ex,g,q2⟩:=yy
 subst ex;obtain rfl:u=Value.ref a:=rx
 exact SK hu I2 g ry λs3 I3=>⟨.bl (!ov.isSome),H2,I3,rfl,q2⟩
theorem Hh (hu:X.A.units+1<cLine)(ho:PE X o td)(hi:PE X i ty)(hv:PE X value tv)(hs:swapsWith value (some (.Subscript o i jB)) pos.line X.env=pure false):
  PS X (.Assign [.Subscript o i jB] value pos) (ahu td ty tv):=by
 intro ah s σ H D I h;refine wpAny_Assign_Subscript (cP (hv ah s σ H _ I h) λr s1 ⟨v,H1,I1,rv,q1⟩=>cP (ho ah s1 σ H1 _ I1 q1) λu s2 ⟨x,H2,I2,rx,q2⟩=>cP (hi ah s2 σ H2 _ I2 q2) λiv s3 yy=>?_) hs;obtain⟨y,H3,I3,ry,a,H4,ex,g,q3⟩:=yy
 subst ex;obtain rfl:u=Value.ref a:=rx
 exact JL hu I3 g ry rv λs4 I4=>⟨σ,H4,I4,q3⟩
theorem B0 (h:Heap)(hb:sysModules<h.objs.size):bP P w H (h.push { cls:=.type "dict",data:=.dict #[]}) h.objs.size (.dK []):=
 ⟨zbM _,beq_eq_false_iff_ne.mpr (zbe (zao hb)),[],.nil,Heap.DictOf.new h⟩
theorem Mx (h:Heap)(hb:sysModules<h.objs.size):bP P w H (h.push { cls:=.type "dict",data:=.dict #[]}) h.objs.size (.dT []):=
 ⟨zbM _,beq_eq_false_iff_ne.mpr (zbe (zao hb)),[],.nil,_,#[],0,zak _ rfl,⟨rfl,rfl,rfl⟩,rfl,rfl,List.nodup_nil⟩
def aa4:TE:=λ_ H Q=>∀p,H p=none->Q (.ref p) (bf H p (.dK []))
def aa5:TE:=λ_ H Q=>∀p,H p=none->Q (.ref p) (bf H p (.dT []))
theorem Mz:PE X (.Dict [] [] pos) aa4:=λah s σ H Q I h =>
 wpAny_Dict_empty ⟨.ref s.heap.objs.size,_,I.iJ (a:=s.heap.objs.size) (o:=.dK []) (t':=s.toks) (λ_ _ q=>zab _ q) (zaf _) (B0 s.heap I.big),rfl,h _ (I.bZ.fresh (zaf _))⟩
theorem MA:PE X (.Dict [] [] pos) aa5:=λah s σ H Q I h =>
 wpAny_Dict_empty ⟨.ref s.heap.objs.size,_,I.iJ (a:=s.heap.objs.size) (o:=.dT []) (t':=s.toks) (λ_ _ q=>zab _ q) (zaf _) (Mx s.heap I.big),rfl,h _ (I.bZ.fresh (zaf _))⟩
noncomputable def Ac:List (TE×TE)->St->Hp->(List (V×V)->Hp->Prop)->Prop
 |[],_,H,Q=>Q [] H
 | (tk,tv)::r,σ,H,Q=>tk σ H λx H1=>tv σ H1 λy H2=>Ac r σ H2 λps H3=>Q ((x,y)::ps) H3
noncomputable abbrev VV:List (V×V)->List (Value×Value)->Prop:=Paired λp q=>bI p.1 q.1/\bI p.2 q.2
def PPs (X:Cx)(pos:Pos)(sA:List (Option Expr))(tZ:List Expr)(trs:List (TE×TE)):Prop:=
 ∀(ah:List (Addr×Obj)) (s:Shared) (σ:St) (H:Hp) (Q:List (V×V)->Hp->Prop),aH X ah σ H s->Ac trs σ H Q ->
  wpAny (model X.prog X.w) X.A (evalPairs (pairTrees sA tZ X.env pos)) (λvs s'=>∃ps H',aH X ah σ H' s'/\VV ps vs/\Q ps H') X.xe s
theorem SR:PPs X pos [] [] []:=λah s σ H Q I h=>pairTrees_nil_walk ⟨[],H,I,.nil,h⟩
theorem MB (hk:PE X k tk)(hv:PE X v tv)(hr:PPs X pos ks vs trs):
  PPs X pos (some k::ks) (v::vs) ((tk,tv)::trs):=λah s σ H Q I h =>
 pairTrees_cons_walk (cP (hk ah s σ H _ I h) λu s1 ⟨x,H1,I1,rx,q1⟩=>cP (hv ah s1 σ H1 _ I1 q1) λw2 s2 ⟨y,H2,I2,ry,q2⟩ =>
  cP (hr ah s2 σ H2 _ I2 q2) λws s3 ⟨ps,H3,I3,jF,q3⟩=>⟨(x,y)::ps,H3,I3,.cons ⟨rx,ry⟩ jF,q3⟩)
def gq (aI jR:List (dF×V)):List (dF×V):=jR.foldl (λbO kv=>kg bO kv.1 kv.2) aI
theorem KV.B3:∀{jR:List (dF×V)} {rs:List (dF×Value)} {aI:List (dF×V)} {vs:List (dF×Value)},KV jR rs->KV aI vs->KV (gq aI jR) (merged vs rs):=by
 intro jR rs aI vs r;unfold KV at r;induction r generalizing aI vs with
 |nil=>intro q;exact q
 | @cons p q ps qs h t ih =>
  intro r0;have e:KV (kg aI p.1 p.2) (stored vs q.1 q.2):=by
   have:=r0.put p.1 h.2
   rw[<-h.1];exact this
  exact ih e
theorem oq:∀(jR aI:List (dF×V)),(gq aI jR).length<=aI.length+jR.length
 |[],aI=>by show aI.length<=aI.length+0;omega
 |p::r,aI=>by
  have h1:=oq r (kg aI p.1 p.2)
  have h2:=mO aI p.1 p.2;show (gq (kg aI p.1 p.2) r).length<=_
  rw[zas];omega
theorem t6:∀{aI:List (dF×V)} {ws:List (Value×Value)},VV (aI.map λkv=>(kV kv.1,kv.2)) ws->∃rs,Carries (bS P w) ws rs/\KV aI rs
 |[],_,r=>by rw[zcc] at r;cases r;exact⟨[],True.intro,.nil⟩
 |p::aI,_,r=>by
  rw[zat] at r;cases r with
  | @cons a b as bs h t =>
   obtain⟨rs,c,q⟩:=t6 (P:=P) (w:=w) t
   obtain⟨b1,b2⟩:=b;exact⟨(p.1,b2)::rs,⟨rJ h.1,rfl,c⟩,.cons ⟨rfl,h.2⟩ q⟩
def ahv (trs:List (TE×TE)):TE:=λσ H Q=>∀p,H p=none->Ac trs σ (bf H p (.dK [])) λps H2=>H2 p=some (.dK [])/\∃aI:List (dF×V),ps=aI.map (λkv=>(kV kv.1,kv.2))/\aI.length<=15/\Q (.ref p) (bf H2 p (.dK (gq [] aI)))
theorem SS (h:PPs X pos sA tZ trs)(MC:sA.all (·.isSome)=true)(hl:sA.length=tZ.length)(h0:sA≠[])
  (h15:sA.length<=15):PE X (.Dict sA tZ pos) (ahv trs):=by
 intro ah s σ H Q I q;have hn:=I.bZ.fresh (zaf s.heap.objs.size)
 have I1:=I.iJ (a:=s.heap.objs.size) (o:=.dK []) (h':=s.heap.push { cls:=.type "dict",data:=.dict #[]}) (t':=s.toks) (λ_ _ q=>zab _ q) (zaf _) (B0 s.heap I.big)
 refine wpAny_Dict_walk (knd:=bS X.prog X.w) MC hl h0 h15 (cP (h ah _ σ _ _ I1 (q _ hn)) λws s2 yy=>?_);obtain⟨ps,H2,I2,jF,e,aI,ep,lk,q2⟩:=yy
 subst ep;obtain⟨rs,c,rk⟩:=t6 (P:=X.prog) (w:=X.w) jF
 obtain⟨z,hd,vs0,r0,dd⟩:=WQ I2.bZ e;cases r0;refine⟨rs,c,dd,λh' BE hs=>⟨.ref s.heap.objs.size,_,?_,rfl,q2⟩⟩
 have hz:(gq [] aI).length<=sizeLine:=by
  have h1:=oq aI []
  rw[zbm] at h1;rw[zbk];omega
 have he:∃q,h'.get? s.heap.objs.size=some q:=let ⟨q,_,_,hq,_⟩:=BE;⟨q,hq⟩
 exact Aa I2 (by rw[e];exact True.intro) hs he (Mu hz hd (rk.B3 .nil) BE)
structure M2 (X:Cx) (o:Expr) (m:Str) (eX:Pos) (e f:Expr) (gA:Pos):Prop where
 base:attributeBase o m X.env (eval o X.env)=eval o X.env
 yt:((backTo gA (starEach [e,f] X.env)).all (λx=>!x.1) && (backToKw gA (keywordEach [] X.env)).all (λx=>x.1.isSome)
  && decide (([e,f]:List Expr).length+([]:List Keyword).length+(if ([]:List Keyword).isEmpty then 0 else 1)<30))=true
 line:(eX.endLine == gA.line)=true
 ahx:backTo gA (starEach [e,f] X.env)=[(false,eval e X.env),(false,eval f X.env)]
def IsD (H:Hp)(a:Addr):Prop:=(∃aI,Rd H a (.dK aI))\/∃aI,Rd H a (.dT aI)
theorem aa7 (I:aH X ah σ H s)(d:IsD H a):
  s.TypeIs (.ref a) "dict" /\ (∀b,Value.ref a = .ref b->∃ob,s.heap.get? b=some ob/\ob.dict=none)/\(a == sysModules)=false:=by
 rcases d with⟨aI,e⟩|⟨aI,e⟩
 ·obtain⟨_,hd,vs,_,dd⟩:=rK I.bZ e
  refine⟨dd.typeIs,λb q=>?_,hd⟩
  cases q;obtain⟨ob,_,_,h1,h2,_⟩:=dd;exact⟨ob,h1,h2.2.1⟩
 ·obtain⟨_,hd,xs,_,dd⟩:=tX I.bZ e
  refine⟨dd.typeIs,λb q=>?_,hd⟩
  cases q;obtain⟨ob,_,_,h1,h2,_⟩:=dd;exact⟨ob,h1,h2.2.1⟩
theorem aa8 (hu:A.units+1<cLine)(I:aH X ah σ H s)(g:mP H a y o)(ry:bI y u)(rd:bI d r)(h:∀w' s',aH X ah σ H s'->bI (o.getD d) w'->Q w' s'):
  wpAny (model X.prog X.w) A (call (.builtin "dict.get") [.ref a,u,r]) Q E s:=by
 rcases g with⟨aI,k,e,ey,l⟩|⟨aI,k,b,e,ey,eb,l⟩
 ·subst ey
  obtain⟨z,hd,vs,jF,dd⟩:=rK I.bZ e;refine call_meetsIn zdu dd.typeIs zeM (zev _ _ _) (meets_dict_get_default (bS X.prog X.w) a (rJ ry) hd r) ⟨_,dd.mapOf,h _ _ (I.o9 _) ?_⟩
  rw[l];exact (jF.val k).getD rd
 ·subst ey
  cases (show u=Value.ref b from ry)
  obtain⟨z,hd,xs,jF,dd⟩:=tX I.bZ e;refine call_meetsIn zdu dd.typeIs zeM (zev _ _ _) (meetsH_dict_get_default (tupleKind (bS X.prog X.w)) a b hd r) ⟨zcD hu,k,xs,qJ I.bZ eb,dd,h _ _ (I.o9 _) ?_⟩
  rw[l];exact (jF.val k).getD rd
def aa9 (td ty tx:TE):TE:=λσ H Q=>td σ H λx H1=>∃a,x = .ref a/\IsD H1 a/\ty σ H1 λy H2=>tx σ H2 λz H3=>∃o,mP H3 a y o/\Q (o.getD z) H3
theorem MD (hu:X.A.units+1<cLine)(ho:PE X o td)(he:PE X e ty)(hf:PE X f tx)(m:M2 X o "get" eX e f gA):PE X (.Call (.Attribute o "get" eX) [e,f] [] gA) (aa9 td ty tx):=by
 intro ah s σ H Q I h;refine wpAny_Call_method m.base m.yt m.line PySem.F.plainAttrs_dict zdu PySem.F.type_dict_get (cP (ho ah s σ H _ I h) λu s1 yy=>?_);obtain⟨x,H1,I1,rx,a,ex,d,q1⟩:=yy
 subst ex;obtain rfl:u=Value.ref a:=rx
 obtain⟨t1,t2,_⟩:=aa7 I1 d;refine⟨t1,t2,?_⟩
 rw[m.ahx];refine zcH rfl (zdz (zdQ (cP (he ah s1 σ H1 _ I1 q1) λiv s2 ⟨y,H2,I2,ry,q2⟩ =>
  zdQ (cP (hf ah s2 σ H2 _ I2 q2) λfv s3 ⟨z,H3,I3,rz,ov,g,q3⟩=>Calls.spliced_nil ?_))))
 exact aa8 hu I3 g ry rz λw' s4 I4 z9=>⟨_,H3,I4,z9,q3⟩
end L2
namespace HT
open PySem PyProof.Rows
section
open PySem.SeqAt
open PySem.AutoSeq1 (wpAny_loadPart')
open PySem.MeetsSeq PySem.MeetsSeq2 PySem.MeetsSeq3
end
theorem SV (ht:IsTup s.heap t vs.toArray)(hb:IsTup s.heap b ws.toArray)(hv:vs≠[])
  (h1:ws=[]->Q (.ref t) s) (h2:ws≠[]->Q (.ref s.heap.objs.size) { s with heap:=s.heap.push { cls:=.type "tuple",data:=.seq (vs++ws).toArray} })
  (hsz:vs.length+ws.length<=sizeLine):wpAny (model prog w) A (binaryOp .Add (.ref t) (.ref b)) Q E s:=by
 obtain⟨⟨cls,dd,data,sl⟩,ho,hc,n,hd⟩:=id ht
 obtain⟨⟨ark,dd2,apy,ME⟩,RQ,hc2,n2,hd2⟩:=id hb
 simp only at hc hd hc2 hd2
 subst hc hd hc2 hd2;have e:vs.toArray++ws.toArray=(vs++ws).toArray:=by simp
 by_cases hw:ws=[]
 ·exact concat_meets ⟨_,ho,rfl⟩ ⟨_,RQ,rfl⟩ noFill_tuple_add seq_tuple_add zeN zew (zep _ _)
   (tuple_addW1 t b vs.toArray ws.toArray n n2 dd dd2 sl ME (by simpa using hv) (by simp[hw])) ⟨ho,RQ,h1 hw⟩
 ·refine concat_meets ⟨_,ho,rfl⟩ ⟨_,RQ,rfl⟩ noFill_tuple_add seq_tuple_add zeN zew (zep _ _)
   (tuple_addW2 t b vs.toArray ws.toArray n n2 dd dd2 sl ME (by simpa using hv) (by simpa using hw) (by rw[zaq,zaq];exact hsz)) ⟨ho,RQ,?_⟩
  rw[e];exact h2 hw
noncomputable def gV (n d:Nat):Option Int->Nat
 |none=>d
 |some v=>if v<0 then (v+(n:Int)).toNat else min v.toNat n
theorem SW (n d k:Nat):gV n d (some (k:Int))=min k n:=by
 show (if (k:Int)<0 then ((k:Int)+(n:Int)).toNat else min (k:Int).toNat n)=min k n
 rw[if_neg (by omega),zbs]
theorem aba (n d:Nat)(hd:d<=n)(o:Option Int):gV n d o<=n:=by
 cases o with
 |none=>exact hd
 |some v =>
  show (if v<0 then (v+(n:Int)).toNat else min v.toNat n)<=n
  by_cases hv:v<0
  ·rw[if_pos hv];omega
  ·rw[if_neg hv];exact Nat.min_le_right _ _
theorem Hi (v:Int)(n d:Nat):(if v<0 then max (v+(n:Int)) 0 else min v (n:Int))=((gV n d (some v):Nat):Int):=by
 show (if v<0 then max (v+(n:Int)) 0 else min v (n:Int))=(((if v<0 then (v+(n:Int)).toNat else min v.toNat n):Nat):Int)
 by_cases hv:v<0
 ·simp only[if_pos hv];omega
 ·simp only[if_neg hv];omega
theorem E5 (lo hi:Option Int)(n:Nat):Builtin.Slice.sliceAdjust lo hi 1 (n:Int)=(((gV n 0 lo:Nat):Int),((gV n n hi:Nat):Int)):=by
 have h1:¬ ((1:Int)<0):=by omega
 unfold Builtin.Slice.sliceAdjust;simp only[h1,if_false];refine zdK ?_ ?_
 ·cases lo with
  |none=>rfl
  |some v=>exact Hi v n 0
 ·cases hi with
  |none=>rfl
  |some v=>exact Hi v n n
theorem E6 (i j:Nat):Builtin.Slice.slicePlaces (i:Int) (j:Int) 1=j - i:=by
 unfold Builtin.Slice.slicePlaces;have h1:(1:Int) > 0:=by omega
 simp only[h1,if_true,Int.ediv_one];split<;>omega
theorem t7 (p:IsPart v o)(h:Q o s):wpAny (model prog w) A (Builtin.Slice.slicePartIndex v) Q E s:=by
 cases p with
 |none=>exact slicePart_none h
 |int i t=>exact slicePart_int h
theorem qK {sl:Addr}{vl vu:Value}{lo hi:Option Int}{n:Nat}{Q:Int×Int×Nat->Shared->Prop}(hs:s.heap.IsSliceOf sl vl vu .none)(pl:IsPart vl lo)(pu:IsPart vu hi)
  (h:Q (((gV n 0 lo:Nat):Int),1,gV n n hi - gV n 0 lo) s):wpAny (model prog w) A (Builtin.Slice.sliceApplied (.ref sl) (pure (n:Int))) Q E s:=by
 obtain⟨os,LI,WR,WS⟩:=id hs;unfold Builtin.Slice.sliceApplied Builtin.Slice.sliceFields;refine zaa (zaa (zay LI WS (x:=vl) rfl (zaa (zay LI WS (x:=vu) rfl (zaa (zay LI WS (x:=.none) rfl (zac ?_)))))))
 refine zaa (slicePart_none ?_)
 show wpAny _ _ (if ((1:Int) == 0)=true then _ else _) _ _ s
 rw[if_neg (by decide)]
 refine zaa (t7 pl (zaa (t7 pu (zaa (zac ?_)))))
 show wpAny _ _ (match Builtin.Slice.sliceAdjust lo hi 1 (n:Int) with | (lo,hi)=>pure (lo,(1:Int),Builtin.Slice.slicePlaces lo hi 1)) _ _ s
 rw[E5 lo hi n];show wpAny _ _ (pure (((gV n 0 lo:Nat):Int),(1:Int),Builtin.Slice.slicePlaces ((gV n 0 lo:Nat):Int) ((gV n n hi:Nat):Int) 1)) _ _ s
 rw[E6];exact zac h
theorem MF (xs:Array Value)(i k:Nat):((List.range k).filterMap λ(m:Nat)=>xs[((i:Int)+(m:Int) * 1).toNat]?).toArray=((xs.toList.drop i).take k).toArray:=by
 have e:(λ(m:Nat)=>xs[((i:Int)+(m:Int) * 1).toNat]?)=λm=>xs[i+m]?:= by
  funext m
  have:((i:Int)+(m:Int) * 1).toNat=i+m:=by omega
  rw[this]
 rw[e]
 have:=pick_run xs i k
 rw[List.filterMap_map] at this;have e2:((λx=>xs[x]?) ∘ λx=>i+x)=λm=>xs[i+m]?:= rfl
 rw[e2] at this;rw[this]
theorem pG {t sl:Addr}{items:Array Value}{vl vu:Value}{lo hi:Option Int}{Q:Value->Shared->Prop}(ht:IsTup s.heap t items)(hs:s.heap.IsSliceOf sl vl vu .none)(pl:IsPart vl lo)(pu:IsPart vu hi)
  (hw:¬ (gV items.size 0 lo=0/\gV items.size items.size hi=items.size))
  (h:Q (.ref s.heap.objs.size) { s with heap:=s.heap.push { cls:=.type "tuple",data:=.seq ((items.toList.drop (gV items.size 0 lo)).take (gV items.size items.size hi - gV items.size 0 lo)).toArray} })
  (hsz:items.size<=sizeLine):wpAny (model prog w) A (getItem (.ref t) (.ref sl)) Q E s:=by
 have Hj:sizeOk (.seq ((items.toList.drop (gV items.size 0 lo)).take (gV items.size items.size hi - gV items.size 0 lo)).toArray):=by
  show ((items.toList.drop (gV items.size 0 lo)).take (gV items.size items.size hi - gV items.size 0 lo)).toArray.size<=sizeLine
  rw[zaq,zaU,zeq,zaW];omega
 have hj:gV items.size items.size hi<=items.size:=aba _ _ (zaf _) hi
 obtain⟨os,LI,WR,WS⟩:=id hs;have hTs:s.TypeIs (.ref sl) "slice" := ⟨os,LI,WR⟩
 unfold getItem;try with_reducible refine zaz ?_
 first|refine zaa (zac ?_)|skip
 refine zaa (wpAny_sequenceKey ht.typeIs (by decide) ?_)
 refine zaa (zaH (name:=Str.ofString "__getitem__") ht.typeIs zcw
  (zaF zcw ht.typeIs entry_tuple_getitem ?_ (args_tuple_getitem _ _)))
 show wpAny _ _ (Builtin.Tuple.tupleItemsOf (.ref t) >>= _) _ _ s
 refine zaa (tupleItemsOf_ ht ?_)
 refine zaa (zcK hTs ?_)
 rw[if_pos (by decide)]
 refine zaa (qK hs pl pu ?_)
 have hno:¬ ((((gV items.size 0 lo:Nat):Int) == 0 && (1:Int) == 1 && (gV items.size items.size hi - gV items.size 0 lo) == items.size)=true):=by
  intro q;rw[zcO,zcO] at q;have q1:((gV items.size 0 lo:Nat):Int)=0:=eq_of_beq q.1.1
  have q2:gV items.size items.size hi - gV items.size 0 lo=items.size:=eq_of_beq q.2
  exact hw ⟨by omega,by omega⟩
 show wpAny _ _ (if (((gV items.size 0 lo:Nat):Int) == 0 && (1:Int) == 1 && (gV items.size items.size hi - gV items.size 0 lo) == items.size)=true then _ else _) _ _ s
 rw[if_neg hno,MF];first
  |exact zaa (m:=Builtin.Tuple.tupleExact _) (zaB (zac ⟨_,rfl,zac h⟩) Hj)
  |exact zaa (m:=Builtin.Tuple.tupleExact _) (zaB (zaa (zac (zac ⟨_,rfl,zac h⟩))) Hj)
  |exact zaa (zaa (m:=Builtin.Tuple.tupleExact _) (zaB (zac (zac ⟨_,rfl,zac h⟩)) Hj))
  |exact zaa (zaa (m:=Builtin.Tuple.tupleExact _) (zaB (zac ⟨_,rfl,zac h⟩) Hj))
end HT
namespace L2
open PySem PySem.Spec PyProof.Rows
noncomputable abbrev TO:=St->Hp->(Option Int->Hp->Prop)->Prop
def PO (X:Cx)(e:Option Expr)(t:TO):Prop:=
 ∀(ah:List (Addr×Obj)) (s:Shared) (σ:St) (H:Hp) (Q:Option Int->Hp->Prop),aH X ah σ H s->t σ H Q ->
  wpAny (model X.prog X.w) X.A (evalPart e X.env) (λu s'=>∃o H',aH X ah σ H' s'/\IsPart u o/\Q o H') X.xe s
def ahz (t:TE):TO:=λσ H Q=>t σ H λx H1=>∃i,x = .int i/\Q (some i) H1
theorem E7:∀{us:List Value},bE (ns.map V.int) us->IntsAre us ns:=by
 induction ns with
 |nil=>intro us r;rw[zcc] at r;cases r;exact .nil
 |cons n ns ih =>
  intro us r;rw[zat] at r;cases r with
  |cons r1 r2 =>
   obtain⟨t,e⟩:=r1;subst e;exact .cons n t (ih r2)
section
variable {X:Cx}{e:Expr}{te:TE}{lo hi:Option Expr}{tl th:TO}{pos p2:Pos}
theorem Ae (h:PE X e te):PO X (some e) (ahz te):=by
 intro ah s σ H Q I hw;rw[evalPart_some];refine cP (h ah s σ H _ I hw) λu s1 ⟨x,H1,I1,r1,q1⟩=>?_
 obtain⟨i,rfl,q⟩:=q1;obtain⟨t,rfl⟩:=r1;exact⟨some i,H1,I1,.int i t,q⟩
def SlR (X:Cx)(r:V->Option Int->Option Int->Hp->VK->Prop):Prop:=
 ∀(ah:List (Addr×Obj)) (s:Shared) (σ:St) (H:Hp) (x:V) (v vl vu:Value) (lo hi:Option Int) (sl:Addr) (Q:VK),aH X ah σ H s->bI x v->s.heap.IsSliceOf sl vl vu .none->IsPart vl lo->IsPart vu hi->r x lo hi H Q ->
  ∃T id,typeLookup (.type T) "__getitem__"=pure (some (.builtin id))/\s.TypeIs v T/\wpAny (model X.prog X.w) X.A (getItem v (.ref sl)) (EP X ah σ Q) X.xe s
def tSl (r:V->Option Int->Option Int->Hp->VK->Prop)(te:TE)(tl th:TO):TE:=λσ H Q=>te σ H λx H1=>tl σ H1 λl H2=>th σ H2 λu H3=>r x l u H3 Q
theorem MG (hr:SlR X r)(he:PE X e te)(hl:PO X lo tl)(hu:PO X hi th):PE X (.Subscript e (.Slice lo hi none p2) pos) (tSl r te tl th):=by
 intro ah s σ H Q I h;refine Subscript_ (cP (he ah s σ H _ I h) λv s1 ⟨x,H1,I1,r1,q1⟩=>?_)
 refine wpAny_Slice (cP (hl ah s1 σ H1 _ I1 q1) λvl s2 ⟨l,H2,I2,pl,q2⟩=>cP (hu ah s2 σ H2 _ I2 q2) λvu s3 ⟨u,H3,I3,pu,q3⟩=>?_)
 rw[evalPart_none];refine zac ?_
 have I4:aH X ah σ H3 { s3 with heap:=s3.heap.push { cls:=.type "slice",data:=.fields #[vl,vu,.none]} }:=I3.eU (t':=s3.toks) λb ob q=>zab _ q
 obtain⟨T,id,hT,ht,hg⟩:=hr ah { s3 with heap:=s3.heap.push { cls:=.type "slice",data:=.fields #[vl,vu,.none]} } σ H3 x v vl vu l u s3.heap.objs.size Q I4 r1 (Heap.IsSliceOf.new ..) pl pu q3
 show wpAny (model X.prog X.w) X.A (subscriptTail e (.Slice lo hi none p2) v (.ref s3.heap.objs.size)) (EP X ah σ Q) X.xe { s3 with heap:=s3.heap.push { cls:=.type "slice",data:=.fields #[vl,vu,.none]} }
 exact tail_any (ops:=[.ref s3.heap.objs.size,v]) ht hT hg (by with_unfolding_all rfl)
def B4 (xs:List V)(lo hi:Option Int):List V:=(xs.drop (HT.gV xs.length 0 lo)).take (HT.gV xs.length xs.length hi - HT.gV xs.length 0 lo)
theorem rL (xs:List V)(lo hi:Option Int):(B4 xs lo hi).length<=xs.length:=by
 unfold B4;rw[zaU,zeq];omega
noncomputable def amH (K:PySem.W.Frag):V->Option Int->Option Int->Hp->VK->Prop:=λx lo hi H Q=>∃a xs,x = .ref a/\pA K H a xs /\
 ¬ (HT.gV xs.length 0 lo=0/\HT.gV xs.length xs.length hi=xs.length)/\∀p,H p=none->Q (.ref p) (bf H p (.gn (B4 xs lo hi)))
theorem abb:SlR X (amH X.K):=by
 intro ah s σ H x v vl vu lo hi sl Q I rx hs pl pu h;obtain⟨a,xs,rfl,hx,hw,q⟩:=h;cases rx;obtain⟨aJ,r,ht,hz⟩:=I.fY hx;have cM:aJ.toArray.size=xs.length:=by rw[zaq];exact r.length.symm
 refine⟨"tuple",_,zcw.lookup,ht.typeIs,?_⟩
 refine HT.pG ht hs pl pu (by rw[cM];exact hw) ?_ (by rw[cM];exact hz)
 rw[cM];refine⟨.ref s.heap.objs.size,_,I.iJ (t':=s.toks) (o:=.gn (B4 xs lo hi)) (λb ob q=>zab _ q) (zaf _) ?_,rfl,q _ (I.bZ.fresh (zaf _))⟩
 exact⟨zah (rL xs lo hi) hz,_,(r.drop (HT.gV xs.length 0 lo)).take (HT.gV xs.length xs.length hi - HT.gV xs.length 0 lo),IsTup.new _ _⟩
def ahA (K:PySem.W.Frag):R2:=λx y H Q=>∃a b xs ys,x = .ref a/\y = .ref b/\pA K H a xs/\pA K H b ys/\xs≠[]/\xs.length+ys.length<=sizeLine /\
 (ys=[]->Q (.ref a) H)/\(ys≠[]->∀p,H p=none->Q (.ref p) (bf H p (.gn (xs++ys))))
theorem bE.Af (r:bE xs us):us=[]↔xs=[]:=by
 cases r with
 |nil=>simp
 |cons _ _=>simp
theorem SX:kU X (binaryOp .Add) (ahA X.K):=by
 intro ah s σ H x y v u Q I rx ry h;obtain⟨a,b,xs,ys,rfl,rfl,ha,hb,hx,hz,q1,q2⟩:=h;cases rx;cases ry;obtain⟨aJ,r1,p1,_⟩:=I.fY ha;obtain⟨fZ,r2,p2,_⟩:=I.fY hb;refine HT.SV p1 p2 (λz=>hx (r1.Af.mp z)) (λz=>⟨.ref a,H,I,rfl,q1 (r2.Af.mp z)⟩) (λz=>?_) (by rw[<-r1.length,<-r2.length];exact hz)
 refine⟨.ref s.heap.objs.size,_,I.iJ (t':=s.toks) (o:=.gn (xs++ys)) (λb ob q=>zab _ q) (zaf _) ?_,rfl,q2 (λw=>z (r2.Af.mpr w)) _ (I.bZ.fresh (zaf _))⟩
 exact⟨by rw[zan];exact hz,_,r1.je r2,IsTup.new _ _⟩
end
noncomputable def SY (n:Nat)(i:Int):Option Nat:=if 0<=i then (if i<n then some i.toNat else none) else if -(n:Int)<=i then some (i+n).toNat else none
def jG {α:Type}(xs:List α)(i:Int):Option α:= (SY xs.length i).bind λj=>xs[j]?
theorem S_ (h:SY n i=some j):seqIndex? i n=some j/\j<n /\ -(n:Int)<=i/\i<n:=by
 unfold SY at h;by_cases h0:0<=i
 ·rw[if_pos h0] at h
  by_cases h1:i<n
  ·rw[if_pos h1] at h
   have e:i.toNat=j:=zaw h
   exact⟨by rw[seqIndex_of h0 h1,e],by omega,by omega,h1⟩
  ·rw[if_neg h1] at h;cases h
 ·rw[if_neg h0] at h
  by_cases h1: -(n:Int)<=i
  ·rw[if_pos h1] at h
   have e:(i+n).toNat=j:=zaw h
   exact⟨by rw[seqIndex_neg (by omega) h1,e],by omega,h1,by omega⟩
  ·rw[if_neg h1] at h;cases h
theorem Ag {α:Type}{xs:List α}{i:Int}{v:α}(h:jG xs i=some v):∃j,seqIndex? i xs.length=some j/\xs[j]? = some v/\j<xs.length /\ -(xs.length:Int)<=i/\i<xs.length:=by
 unfold jG at h;cases e:SY xs.length i with
 |none=>rw[e] at h;cases h
 |some j =>
  rw[e] at h;obtain⟨h1,h2,h3,h4⟩:=S_ e;exact⟨j,h1,h,h2,h3,h4⟩
theorem h_ {α:Type}{xs:List α}{j:Nat}{v:α}(h:xs[j]? = some v):jG xs (j:Int)=some v:=by
 have hj:j<xs.length:=(zae.mp h).1
 have e:SY xs.length (j:Int)=some j:=by
  unfold SY;rw[if_pos (by omega),if_pos (by omega)];simp
 unfold jG;rw[e];exact h
def Hl (b:Expr):Prop:=∀o i,subscripted b false o i=operate [o,i] (getItem o i)
def Tc (X:Cx)(r:R2):Prop:=
 ∀(value slice:Expr) (ah:List (Addr×Obj)) (s:Shared) (σ:St) (H:Hp) (x y:V) (v u:Value) (Q:VK),aH X ah σ H s->bI x v->bI y u->r x y H Q ->
  subscripted slice false v u=operate [v,u] (getItem v u)->wpAny (model X.prog X.w) X.A (subscriptTail value slice v u) (EP X ah σ Q) X.xe s
def MtR (X:Cx)(id:String)(r:V->List V->Hp->VK->Prop):Prop:=
 ∀(ah:List (Addr×Obj)) (s:Shared) (σ:St) (H:Hp) (x:V) (xs:List V) (v:Value) (us:List Value) (Q:VK),aH X ah σ H s->bI x v->bE xs us->r x xs H Q ->
  wpAny (model X.prog X.w) X.A (call (.builtin id) (v::us)) (EP X ah σ Q) X.xe s
section
variable {X:Cx}{a b:Expr}{ta tb:TE}{pos:Pos}
theorem Tc.or (h:Tc X r)(h':Tc X r'):Tc X (λx y H Q=>r x y H Q\/r' x y H Q):=by
 intro value slice ah s σ H x y v u Q I rx ry q hs;rcases q with q|q
 ·exact h value slice ah s σ H x y v u Q I rx ry q hs
 ·exact h' value slice ah s σ H x y v u Q I rx ry q hs
theorem ahB (hr:Tc X r)(ha:PE X a ta)(hb:PE X b tb)(hs:Hl b):PE X (.Subscript a b pos) (tOp r ta tb):=by
 intro ah s σ H Q I h;exact Subscript_ (aaM ha hb I h λv u s2 x y H2 I2 rx ry q=>hr a b ah s2 σ H2 x y v u Q I2 rx ry q (hs _ _))
def ahC (K:PySem.W.Frag):R2:=λx y H Q=>∃p xs i v,x = .ref p/\y = .int i/\jy K H p xs/\jG xs i=some v/\Q v H
def ahD (K:PySem.W.Frag):R2:=λx y H Q=>∃p xs i v,x = .ref p/\y = .int i/\pA K H p xs/\jG xs i=some v/\Q v H
def ahE:R2:=λx y H Q=>∃z i c,x = .str z/\y = .int i/\z.length<=sizeLine/\jG z.cps.toList i=some c/\Q (.str ⟨#[c]⟩) H
theorem Td:Tc X (ahC X.K):=by
 intro value slice ah s σ H x y v u Q I rx ry h hs;obtain⟨p,xs,i,z,rfl,rfl,hq,he,q⟩:=h;cases rx;obtain⟨t,rfl⟩:=ry;obtain⟨aJ,r,pl,hz⟩:=I.list hq;obtain⟨j,h1,h2,h3,h4,h5⟩:=Ag he;obtain⟨w,ew,z9⟩:=r.get h2;have hl:=r.length;have hn:=tP;have fP:EP X ah σ Q w s:=⟨z,H,I,z9,q⟩
 by_cases h0:0<=i
 ·have hj:i.toNat=j:=by
   rw[seqIndex_of h0 h5] at h1;exact zaw h1
  exact item_listR pl.isList h0 (by omega) (by rw[hj];simpa using ew) fP hs
 ·have hj:(i+(aJ.toArray.size:Int)).toNat=j:=by
   rw[seqIndex_neg (by omega) h4] at h1
   rw[zaq,<-hl];exact zaw h1
  exact subscriptTail_builtinR (x:=w) pl.isList.typeIs slot_list_getitem.lookup
   (wpAny_getItem_list_neg (Q:=λr s'=>r=w/\EP X ah σ Q r s') pl.isList (by omega) (by rw[zaq]<;>omega) (by omega) (by rw[hj];simpa using ew) ⟨rfl,fP⟩) hs
theorem abc:Tc X (ahD X.K):=by
 intro value slice ah s σ H x y v u Q I rx ry h hs;obtain⟨p,xs,i,z,rfl,rfl,hq,he,q⟩:=h;cases rx;obtain⟨t,rfl⟩:=ry;obtain⟨aJ,r,pl,hz⟩:=I.fY hq;obtain⟨j,h1,h2,h3,h4,h5⟩:=Ag he;obtain⟨w,ew,z9⟩:=r.get h2;have hl:=r.length;have hn:=tP;have fP:EP X ah σ Q w s:=⟨z,H,I,z9,q⟩
 exact subscriptTail_builtinR (x:=w) pl.typeIs slot_tuple_getitem.lookup
  (getItem_tuple (j:=j) (Q:=λr s'=>r=w/\EP X ah σ Q r s') pl (by omega) (by omega) (by rw[zaq,<-hl];exact h1) (by simpa using ew) ⟨rfl,fP⟩) hs
theorem abd:Tc X ahE:=by
 intro value slice ah s σ H x y v u Q I rx ry h hs;obtain⟨z,i,c,rfl,rfl,hz,he,q⟩:=h;obtain⟨t,rfl⟩:=rx;obtain⟨t',rfl⟩:=ry;obtain⟨j,h1,h2,h3,h4,h5⟩:=Ag he;have hl:z.cps.toList.length=z.length:=by simp[Str.length]
 rw[hl] at h1 h4 h5;have hn:=tP;exact tail_any (typeIs_str s z t) slot_str_getitem.lookup (getItem_str (c:=c) (by
  have e1:decide (i < -(2 ^ 63:Int))=false:=decide_eq_false (by omega)
  have e2:decide (i ≥ 2 ^ 63)=false:=decide_eq_false (by omega)
  rw[e1,e2,zfi]) (by rw[h1];simpa using h2) ⟨.str ⟨#[c]⟩,H,I.o9 _,⟨_,rfl⟩,q⟩) hs
def rIx (K:PySem.W.Frag):R2:=λx y H Q=>ahC K x y H Q\/ahD K x y H Q\/ahE x y H Q
theorem abe:Tc X (rIx X.K):=Td.or (abc.or abd)
theorem aH.bD (I:aH X ah σ H s)(h:H p=some (.bD xs)):
  ∃(aJ:List Value) (n:Nat),bE xs aJ/\s.heap.get? p=some { cls:=.type "list",data:=.seq aJ.toArray n}/\xs.length<=sizeLine:=by
 obtain⟨z,aJ,n,r,e⟩:=I.bZ p _ h;exact⟨aJ,n,r,e,z⟩
theorem Ah (lo hi:Option Int)(n:Nat):(sliceBounds lo hi none n).1=((HT.gV n 0 lo:Nat):Int)/\(sliceBounds lo hi none n).2.1=((HT.gV n n hi:Nat):Int)/\(sliceBounds lo hi none n).2.2=1:=by
 refine⟨?_,?_,rfl⟩
 ·cases lo with
  |none=>simp[sliceBounds,HT.gV]
  |some i =>
   simp only[sliceBounds,HT.gV,zer,show (1:Int) > 0 by decide,if_true]
   by_cases h:i<0
   ·simp only[h,if_true]<;>omega
   ·simp only[h,if_false]<;>omega
 ·cases hi with
  |none=>simp[sliceBounds,HT.gV]
  |some i =>
   simp only[sliceBounds,HT.gV,zer,show (1:Int) > 0 by decide,if_true]
   by_cases h:i<0
   ·simp only[h,if_true]<;>omega
   ·simp only[h,if_false]<;>omega
theorem xo (aJ:List Value)(lo hi:Option Int):slicePick aJ.toArray lo hi none=((aJ.drop (HT.gV aJ.length 0 lo)).take (HT.gV aJ.length aJ.length hi - HT.gV aJ.length 0 lo)).toArray:=by
 obtain⟨h1,h2,h3⟩:=Ah lo hi aJ.toArray.size;unfold slicePick;rw[h1,h2,h3];simp only[sliceRange_one,pick_run,zaq]<;>rfl
noncomputable def amI (K:PySem.W.Frag):V->Option Int->Option Int->Hp->VK->Prop:=λx lo hi H Q=>∃a xs,x = .ref a/\jy K H a xs/\∀p,H p=none->Q (.ref p) (bf H p (.bD (B4 xs lo hi)))
theorem Te:SlR X (amI X.K):=by
 intro ah s σ H x v vl vu lo hi sl Q I rx hs pl pu h;obtain⟨a,xs,rfl,hx,q⟩:=h;cases rx;obtain⟨aJ,r,ht,hz⟩:=I.list hx;have cM:=r.length;refine⟨"list",_,slot_list_getitem.lookup,ht.isList.typeIs,?_⟩
 refine wpAny_getItem_list_slice ht.isList hs pl pu .none (by simp) ?_ (by rw[zaq]<;>omega)
 rw[xo,<-cM];refine⟨.ref s.heap.objs.size,_,I.iJ (t':=s.toks) (o:=.bD (B4 xs lo hi)) (λb ob q=>zab _ q) (zaf _) ?_,rfl,q _ (I.bZ.fresh (zaf _))⟩
 exact⟨zah (rL xs lo hi) hz,_,0,(r.drop (HT.gV xs.length 0 lo)).take (HT.gV xs.length xs.length hi - HT.gV xs.length 0 lo),zak _ rfl⟩
noncomputable def jH:V->Bool
 |.bq=>true
 |.bl _=>true
 |.int _=>true
 |.str _=>true
 |_=>false
noncomputable def Ho:V->V->Bool
 |.bq,.bq=>true
 |.bl a,.bl b=>a == b
 |.bl a,.int b=>(if a then 1 else 0) == b
 |.int a,.bl b=>a == (if b then 1 else 0)
 |.int a,.int b=>a == b
 |.str a,.str b=>a == b
 |_,_=>false
theorem MH (ry:bI y u)(rx:bI x v)(fy:jH y=true)(fx:jH x=true):SeqAt.EqAt A s u v (Ho y x):=by
 cases y with
 |bq =>
  cases ry;cases x with
  |bq=>cases rx;exact zeD _
  |bl b=>cases rx;exact SeqAt.EqAt.none_bool b
  |int b=>obtain⟨t,rfl⟩:=rx;exact SeqAt.EqAt.none_int b t
  |str b=>obtain⟨t,rfl⟩:=rx;exact SeqAt.EqAt.none_str b t
  |_=>exact absurd (show false=true from fx) zai
 |bl a =>
  cases ry;cases x with
  |bq=>cases rx;exact SeqAt.EqAt.bool_none a
  |bl b=>cases rx;exact SeqAt.EqAt.bool_bool a b
  |int b=>obtain⟨t,rfl⟩:=rx;exact SeqAt.EqAt.bool_int a b t
  |str b=>obtain⟨t,rfl⟩:=rx;exact SeqAt.EqAt.bool_str a b t
  |_=>exact absurd (show false=true from fx) zai
 |int a =>
  obtain⟨t',rfl⟩:=ry;cases x with
  |bq=>cases rx;exact SeqAt.EqAt.int_none a t'
  |bl b=>cases rx;exact SeqAt.EqAt.int_bool a t' b
  |int b=>obtain⟨t,rfl⟩:=rx;exact SeqAt.EqAt.int_int a t' b t
  |str b=>obtain⟨t,rfl⟩:=rx;exact zfq a t' b t
  |_=>exact absurd (show false=true from fx) zai
 |str a =>
  obtain⟨t',rfl⟩:=ry;cases x with
  |bq=>cases rx;exact SeqAt.EqAt.str_none a t'
  |bl b=>cases rx;exact SeqAt.EqAt.str_bool a t' b
  |int b=>obtain⟨t,rfl⟩:=rx;exact zfr a t' b t
  |str b=>obtain⟨t,rfl⟩:=rx;exact SeqAt.EqAt.str_str a t' b t
  |_=>exact absurd (show false=true from fx) zai
 |_=>exact absurd (show false=true from fy) zai
def E8 (x:V)(u:Value):Bool:=match u with
 |.none=>Ho .bq x
 |.bool b=>Ho (.bl b) x
 |.int i _=>Ho (.int i) x
 |.str z _=>Ho (.str z) x
 |_=>false
theorem MI (r:bI y u)(f:jH y=true):E8 x u=Ho y x:=by
 cases y with
 |bq=>cases r;rfl
 |bl b=>cases r;rfl
 |int i=>obtain⟨t,rfl⟩:=r;rfl
 |str z=>obtain⟨t,rfl⟩:=r;rfl
 |_=>exact absurd (show false=true from f) zai
theorem pH:∀{xs:List V} {us:List Value},bE xs us->xs.all jH=true->us.any (E8 x)=xs.any λy=>Ho y x
 |_,_,.nil,_=>rfl
 |y::xs,u::us,.cons r t,f=>by
  rw[zbi,zcO] at f;rw[zcy,zcy,MI r f.1,pH t f.2]
theorem mQ (rx:bI x v)(fx:jH x=true):∀{xs:List V} {us:List Value},bE xs us->xs.all jH=true->∀u∈us,SeqAt.EqAt A s u v (E8 x u)
 |_,_,.nil,_=>λu hu=>by cases hu
 |y::xs,u::us,.cons r t,f=>λu' hu=>by
  rw[zbi,zcO] at f;rcases zam.mp hu with rfl|hu
  ·rw[MI r f.1];exact MH r rx f.1 fx
  ·exact mQ rx fx t f.2 u' hu
def inV (x:V)(xs:List V):Bool:=xs.any λy=>Ho y x
def rIn (K:PySem.W.Frag)(neg:Bool):R2:=λx y H Q=>∃p xs,y = .ref p/\(jy K H p xs\/pA K H p xs)/\jH x=true/\xs.all jH=true/\Q (.bl (if neg then !inV x xs else inV x xs)) H
theorem JN:kU X (compareOp .In) (rIn X.K false):=by
 intro ah s σ H x y v u Q I rx ry h;obtain⟨p,xs,rfl,hq,fx,fs,q⟩:=h;cases ry;rcases hq with hq|hq
 ·obtain⟨aJ,r,pl,hz⟩:=I.list hq
  refine SeqAt.in_listAt (E8 x) pl.isList (λw hw=>mQ rx fx r fs w (by simpa using hw)) ⟨.bl _,H,I,rfl,?_⟩
  rw[show aJ.toArray.any (E8 x)=aJ.any (E8 x) by simp,pH r fs]
  exact q
 ·obtain⟨aJ,r,pl,hz⟩:=I.fY hq
  refine SeqAt.in_tupleAt (E8 x) pl (λw hw=>mQ rx fx r fs w (by simpa using hw)) ⟨.bl _,H,I,rfl,?_⟩
  rw[show aJ.toArray.any (E8 x)=aJ.any (E8 x) by simp,pH r fs]
  exact q
theorem Ai:kU X (compareOp .NotIn) (rIn X.K true):=by
 intro ah s σ H x y v u Q I rx ry h;obtain⟨p,xs,rfl,hq,fx,fs,q⟩:=h;cases ry;rcases hq with hq|hq
 ·obtain⟨aJ,r,pl,hz⟩:=I.list hq
  refine SeqAt.notIn_listAt (E8 x) pl.isList (λw hw=>mQ rx fx r fs w (by simpa using hw)) ⟨.bl _,H,I,rfl,?_⟩
  rw[show aJ.toArray.any (E8 x)=aJ.any (E8 x) by simp,pH r fs]
  exact q
 ·obtain⟨aJ,r,pl,hz⟩:=I.fY hq
  refine SeqAt.notIn_tupleAt (E8 x) pl (λw hw=>mQ rx fx r fs w (by simpa using hw)) ⟨.bl _,H,I,rfl,?_⟩
  rw[show aJ.toArray.any (E8 x)=aJ.any (E8 x) by simp,pH r fs]
  exact q
theorem Aj:kU X (compareOp .NotIn) (λx y H Q=>∃i j,x = .str i/\y = .str j/\Q (.bl (!(!(Builtin.Str.occurrences j i 0 j.length 1).isEmpty))) H):=by
 intro ah s σ H x y v u Q I rx ry h;obtain⟨i,j,rfl,rfl,q⟩:=h;obtain⟨t,rfl⟩:=rx;obtain⟨t',rfl⟩:=ry;exact notIn_str ⟨.bl _,H,I,rfl,q⟩
theorem Ak:ig X (.builtin "len") (λxs H Q=>∃p ys,xs=[.ref p]/\(jy X.K H p ys\/pA X.K H p ys)/\Q (.int ys.length) H):=by
 intro ah s σ H xs us Q I r h;obtain⟨p,ys,rfl,hq,q⟩:=h;obtain⟨u,rfl,rx⟩:=j9 r;cases rx;have hn:=tP;rcases hq with hq|hq
 ·obtain⟨aJ,r',pl,hz⟩:=I.list hq
  have cM:=r'.length;exact Calls.call_len_list pl.isList (by simp only[zaq]<;>omega) ⟨.int ys.length,H,I.o9 _,⟨s.toks+1,by rw[zaq,cM]⟩,q⟩
 ·obtain⟨aJ,r',pl,hz⟩:=I.fY hq
  have cM:=r'.length;exact len_tuple pl (by simp only[zaq]<;>omega) ⟨.int ys.length,H,I.o9 _,⟨s.toks+1,by rw[zaq,cM]⟩,q⟩
theorem Al:ig X (.builtin "len") (λxs H Q=>∃z,xs=[.str z]/\z.length<=sizeLine/\Q (.int z.length) H):=by
 intro ah s σ H xs us Q I r h;obtain⟨z,rfl,hz,q⟩:=h;obtain⟨u,rfl,t,rfl⟩:=j9 r;have hn:=tP;exact len_str (by omega) ⟨.int z.length,H,I.o9 _,⟨_,rfl⟩,q⟩
theorem Am:ig X (.type "list") (λxs H Q=>∃p ys,xs=[.ref p]/\(jy X.K H p ys\/pA X.K H p ys)/\∀l,H l=none->Q (.ref l) (bf H l (.bD ys))):=by
 intro ah s σ H xs us Q I r h;obtain⟨p,ys,rfl,hq,q⟩:=h;obtain⟨u,rfl,rx⟩:=j9 r;cases rx;have fP:∀(aJ:List Value),bE ys aJ->ys.length<=sizeLine->∀(h':Heap) (c':Nat),(∀b o',s.heap.get? b=some o'->h'.get? b=some o') ->
   h'.get? s.heap.objs.size=some { cls:=.type "list",dict:=none,data:=.seq aJ.toArray c',slots:=#[]}->EP X ah σ Q (.ref s.heap.objs.size) {s with heap:=h' }:=λaJ r' hz h' c' kp e =>
  ⟨.ref s.heap.objs.size,_,I.iJ (t':=s.toks) kp (zaf _) (show bP X.prog X.w _ h' _ (.bD ys) from ⟨hz,aJ,c',r',e⟩),rfl,q _ (I.bZ.fresh (zaf _))⟩
 rcases hq with hq|hq
 ·obtain⟨aJ,r',pl,hz⟩:=I.list hq
  have cM:=r'.length;obtain⟨o,ho,hc,n,hd⟩:=pl.isList;exact call_list_seq p (.inl rfl) ho hc hd (λh' c' kp e=>fP aJ r' hz h' c' kp e) (by simp only[zaq]<;>omega)
 ·obtain⟨aJ,r',pl,hz⟩:=I.fY hq
  have cM:=r'.length;obtain⟨o,ho,hc,n,hd⟩:=pl;exact call_list_seq p (.inr rfl) ho hc hd (λh' c' kp e=>fP aJ r' hz h' c' kp e) (by simp only[zaq]<;>omega)
theorem ou:ig X (.type "tuple") (λxs H Q=>∃p ys,xs=[.ref p]/\((jy X.K H p ys/\∀l,H l=none->Q (.ref l) (bf H l (.gn ys)))\/(pA X.K H p ys/\Q (.ref p) H))):=by
 intro ah s σ H xs us Q I r h;obtain⟨p,ys,rfl,h⟩:=h;obtain⟨u,rfl,rx⟩:=j9 r;cases rx;rcases h with⟨hq,q⟩|⟨hq,q⟩
 ·obtain⟨aJ,r',pl,hz⟩:=I.list hq
  have cM:=r'.length;refine call_tuple_list pl.isList (λh' kp=>?_) (by simp only[zaq]<;>omega)
  have I1:aH X ah σ H {s with heap:=h' }:=I.eU (t':=s.toks) kp
  have I2:aH X ah σ (bf H h'.objs.size (.gn ys)) { s with heap:=h'.push { cls:=.type "tuple",data:=.seq aJ.toArray} }:=
   I1.iJ (t':=s.toks) (λb o e=>zab _ e) (zaf _) (show bP X.prog X.w _ _ _ (.gn ys) from ⟨hz,aJ,r',IsTup.new _ _⟩)
  exact⟨.ref h'.objs.size,_,I2,rfl,q _ (I1.bZ.fresh (zaf _))⟩
 ·obtain⟨aJ,r',pl,hz⟩:=I.fY hq
  exact call_tuple_same pl ⟨.ref p,H,I,rfl,q⟩
def tyV (K:PySem.W.Frag)(T:String)(x:V)(H:Hp):Prop:=match x with
 |.str _=>T="str"
 |.int _=>T="int"
 |.ref p=>(T="list" /\ ∃xs,jy K H p xs)\/(T="tuple" /\ ∃o,K.lookup p=some o/\o.cls = .type "tuple" /\ o.dict=none) \/
   (T="dict" /\ ((∃aI,H p=some (.dK aI))\/∃aI,H p=some (.dT aI)))\/(T="set" /\ ∃S n,H p=some (.set S n))
 |_=>False
theorem MJ (I:aH X ah σ H s)(r:bI x v)(ty:tyV X.K T x H):
  s.TypeIs v T/\∀a,v = .ref a->∃ob,s.heap.get? a=some ob/\ob.dict=none:=by
 cases x with
 |str z =>
  obtain⟨t,rfl⟩:=r;cases (show T="str" from ty)
  exact⟨typeIs_str s z t,λ_ e=>nomatch e⟩
 |int i =>
  obtain⟨t,rfl⟩:=r;cases (show T="int" from ty)
  exact⟨typeIs_int s i t,λ_ e=>nomatch e⟩
 |ref p =>
  cases r;rcases ty with⟨rfl,xs,hq⟩|⟨rfl,o,hk,hc,hd⟩|⟨rfl,hk⟩|⟨rfl,S,n,hk⟩
  ·obtain⟨aJ,_,pl,_⟩:=I.list hq
   refine⟨pl.isList.typeIs,λa e=>?_⟩
   cases e;obtain⟨o,n,e,c,hd,_⟩:=pl;exact⟨o,e,hd⟩
  ·refine⟨⟨o,I.kT p o hk,hc⟩,λa e=>?_⟩
   cases e;exact⟨o,I.kT _ o hk,hd⟩
  ·have z:∃o,s.heap.get? p=some o/\o.ExactDict:=by
    rcases hk with⟨aI,hk⟩|⟨aI,hk⟩
    ·obtain⟨_,_,_,_,o,_,_,e,ex,_⟩:=I.bZ p _ hk
     exact⟨o,e,ex⟩
    ·obtain⟨_,_,_,_,o,_,_,e,ex,_⟩:=I.bZ p _ hk
     exact⟨o,e,ex⟩
   obtain⟨o,e,ex⟩:=z;refine⟨⟨o,e,ex.1⟩,λa e2=>?_⟩
   cases e2;exact⟨o,e,ex.2.1⟩
  ·obtain⟨o,_,_,_,e,ex,_⟩:=I.bZ p _ hk
   refine⟨⟨o,e,ex.1⟩,λa e2=>?_⟩
   cases e2;exact⟨o,e,ex.2.1⟩
 |_=>exact False.elim ty
def amJ (K:PySem.W.Frag)(T:String)(r:V->List V->Hp->VK->Prop)(to:TE):TE:=λσ H Q=>to σ H λx H1=>tyV K T x H1/\r x [] H1 Q
def tBM (K:PySem.W.Frag)(T:String)(r:V->List V->Hp->VK->Prop)(to:TE)(t:TA):TE:=λσ H Q=>to σ H λx H1=>tyV K T x H1/\t σ H1 λxs H2=>r x xs H2 Q
variable {o e:Expr}{es:List Expr}{to:TE}{t:TA}{name:Str}{eX gA:Pos}{T id:String}{r:V->List V->Hp->VK->Prop}
theorem abf (pa:PlainAttrs T)(slot:Slot T name id)(hty:typeOf (.builtin id)=pure (.type "method_descriptor"))(hm:MtR X id r)(ho:PE X o to)
  (t8:attributeBase o name X.env (eval o X.env)=eval o X.env:=by rfl) (t9:(eX.endLine == gA.line)=true:=by rfl):PE X (.Call (.Attribute o name eX) [] [] gA) (amJ X.K T r to):=by
 intro ah s σ H Q I h;refine wpAny_Call_method0_late t8 t9 (cP (ho ah s σ H _ I h) λv s1 ⟨x,H1,I1,r1,ty,q1⟩=>?_)
 obtain⟨h1,h2⟩:=MJ I1 r1 ty;exact⟨T,id,pa,slot,hty,h1,h2,zcH rfl (PySem.evalArgs_none (hm ah s1 σ H1 x [] v [] Q I1 r1 .nil q1))⟩
theorem ahF (pa:PlainAttrs T)(slot:Slot T name id)(hty:typeOf (.builtin id)=pure (.type "method_descriptor"))(hm:MtR X id r)(ho:PE X o to)(ha:PA X (e::es) t)
  (t8:attributeBase o name X.env (eval o X.env)=eval o X.env:=by rfl)
  (amK:((backTo gA (starEach (e::es) X.env)).all (λx=>!x.1) && (backToKw gA (keywordEach [] X.env)).all (λx=>x.1.isSome)
   && decide ((e::es).length+([]:List Keyword).length+(if ([]:List Keyword).isEmpty then 0 else 1)<30))=true:=by rfl)
  (t9:(eX.endLine == gA.line)=true:=by rfl) (hs:starEach (e::es) X.env=(false,eval e X.env)::starEach es X.env:=by rfl) (abh:(backTo gA (starEach es X.env)).any (·.1)=false:=by rfl):
  PE X (.Call (.Attribute o name eX) (e::es) [] gA) (tBM X.K T r to t):=by
 intro ah s σ H Q I h;refine wpAny_Call_method_late t8 amK t9 rfl (cP (ho ah s σ H _ I h) λv s1 ⟨x,H1,I1,r1,ty,q1⟩=>?_)
 obtain⟨h1,h2⟩:=MJ I1 r1 ty;refine⟨T,id,pa,slot,hty,h1,h2,?_⟩
 have hA:=ha gA ah s1 σ H1 _ I1 q1;rw[hs] at hA ⊢
 refine zcH (by show (false || (backTo gA (starEach es X.env)).any (·.1))=false;rw[abh]<;>rfl) (zdz ?_)
 exact cP hA λus s2 ⟨vs,H2,I2,r2,q2⟩=>hm ah s2 σ H2 x vs v us Q I2 r1 r2 q2
end
def MtM (X:Cx)(id:String)(r:V->List V->Hp->VK->Prop):Prop:=
 ∀(ah:List (Addr×Obj)) (s:Shared) (σ:St) (H:Hp) (x:V) (xs:List V) (v:Value) (us:List Value) (Q:VK),aH X ah σ H s->bI x v->bE xs us->r x xs H Q ->
  wpAny (model X.prog X.w) X.A (call (.builtin id) (v::us)) (EP X ah σ Q) X.xe s
theorem bE.R8:∀{x:V} {us:List Value},bE [x] us->∃u,us=[u]/\bI x u:=by
 intro x us h;cases h with|cons r t=>cases t;exact⟨_,rfl,r⟩
theorem bE.two:∀{x y:V} {us:List Value},bE [x,y] us->∃u v,us=[u,v]/\bI x u/\bI y v:=by
 intro x y us h;cases h with|cons r t=>cases t with|cons q t=>cases t;exact⟨_,_,rfl,r,q⟩
theorem bE.zero:∀{us:List Value},bE [] us->us=[]
 |_,.nil=>rfl
theorem bE.dropLast (h:bE xs us):bE xs.dropLast us.dropLast:=by
 induction h with
 |nil=>exact .nil
 |cons r t ih =>
  cases t with
  |nil=>exact .nil
  |cons q t'=>exact .cons r ih
theorem bE.rep (h:bE xs us):∀k:Nat,bE (List.replicate k xs).flatten (List.replicate k us).flatten
 |0=>.nil
 |k+1=>by
  rw[zaD,zaD,zcl,zcl];exact bE.je h (bE.rep h k)
theorem E9 {α:Type}(l:List α):l.eraseIdx (l.length - 1)=l.dropLast:=by
 induction l with
 |nil=>rfl
 |cons a r ih =>
  cases r with
  |nil=>rfl
  |cons b r =>
   have e:(a::b::r).length - 1=((b::r).length - 1)+1:=by
    have h1:(a::b::r).length=r.length+2:=rfl
    have h2:(b::r).length=r.length+1:=rfl
    omega
   rw[e,zex,ih];all_goals rfl
theorem yu (aJ:List Value):∀(k:Nat) (bO:List Value),
  List.foldl (λx1 x2=>x1++x2) bO.toArray (List.replicate k aJ.toArray)=(bO++(List.replicate k aJ).flatten).toArray
 |0,bO=>by simp
 |k+1,bO=>by
  have e:bO.toArray++aJ.toArray=(bO++aJ).toArray:=by simp
  have e2:(bO++aJ)++(List.replicate k aJ).flatten=bO++(List.replicate (k+1) aJ).flatten:=by
   rw[zaD,zcl,zcI]
  rw[<-e2,<-yu aJ k (bO++aJ),<-e,zaD,zaT]
theorem aH.MK {aJ its':List Value}{n:Nat}{f:Array Value->Array Value}{t':Nat}(I:aH X ah σ H s)(hH:H l=some (.bD xs))
  (e:s.heap.get? l=some { cls:=.type "list",data:=.seq aJ.toArray n}) (hf:f aJ.toArray=its'.toArray) (hv:bE ys its') (hz:ys.length<=sizeLine):
  aH X ah σ (bf H l (.bD ys)) {s with heap:=s.heap.update l (Obj.mapSeq f),toks:=t' }:=by
 have q:=PySem.IsL.update e f;rw[hf] at q;refine I.j6 (x:=l) (e:=l) (by rw[hH];exact trivial) (.inl rfl) (λb' u hb hu=>(zaE s.heap (Obj.mapSeq f) (zbe hb)).trans hu) ⟨_,q⟩ ?_
 exact⟨hz,its',_,hv,q⟩
theorem aH.ahH (I:aH X ah σ H s)(hv:bE ys aJ)(hz:ys.length<=sizeLine):
  aH X ah σ (bf H s.heap.objs.size (.bD ys)) { s with heap:=s.heap.push { cls:=.type "list",data:=.seq aJ.toArray},toks:=t' }:=
 I.iJ (λ_ _ q=>zab _ q) (zaf _) ⟨hz,aJ,0,hv,zak _ rfl⟩
theorem aH.fresh (I:aH X ah σ H s):H s.heap.objs.size=none:=I.bZ.fresh (zaf _)
theorem aH.xq (I:aH X ah σ H s)(hH:H l=some (.bD xs)):xs.length<=sizeLine/\∃(aJ:List Value) (n:Nat),bE xs aJ/\xs.length=aJ.length/\s.heap.get? l=some { cls:=.type "list",data:=.seq aJ.toArray n}:=by
 obtain⟨z,aJ,n,r,e⟩:=I.bZ l _ hH;exact⟨z,aJ,n,r,r.length,e⟩
theorem pI (h:n<=sizeLine):Builtin.List.listTooLong n=false:=by
 unfold Builtin.List.listTooLong;exact decide_eq_false (by omega)
noncomputable def Tf:V->List V->Hp->VK->Prop:=λx vs H Q=>∃l xs y,x = .ref l/\vs=[y]/\H l=some (.bD xs)/\xs.length<sizeLine/\Q .bq (bf H l (.bD (xs++[y])))
theorem yv:MtM X "list.append" Tf:=by
 intro ah s σ H x vs v us Q I rx rv h;obtain⟨l,xs,y,rfl,rfl,hH,hz,q⟩:=h;cases rx;obtain⟨u,rfl,ru⟩:=rv.R8;obtain⟨z,aJ,n,r,hl,e⟩:=I.xq hH;refine zdk F.slot_list_append ⟨_,e,rfl⟩ F.entry_list_append (F.args_list_append_2 _ _) (PySem.list_append l aJ.toArray n u (by rw[zaq];omega)) ⟨e,?_⟩
 refine⟨.bq,_,I.MK (its':=aJ++[u]) hH e (by simp) (r.je (.cons ru .nil)) ?_,rfl,q⟩
 rw[zan,zbj];omega
noncomputable def Tg:V->List V->Hp->VK->Prop:=λx vs H Q=>∃l b xs zs,x = .ref l/\vs=[.ref b]/\H l=some (.bD xs)/\H b=some (.bD zs)/\xs.length+zs.length<=sizeLine/\Q .bq (bf H l (.bD (xs++zs)))
theorem JO:MtM X "list.extend" Tg:=by
 intro ah s σ H x vs v us Q I rx rv h;obtain⟨l,b,xs,zs,rfl,rfl,hH,hB,hz,q⟩:=h;cases rx;obtain⟨u,rfl,ru⟩:=rv.R8;cases ru;obtain⟨z,aJ,n,r,hl,e⟩:=I.xq hH;obtain⟨z2,fZ,n2,r2,An,e2⟩:=I.xq hB;have hsz:aJ.toArray.size+fZ.toArray.size<=sizeLine:=by rw[zaq,zaq];omega
 have ML:¬ (!aJ.toArray.isEmpty && Builtin.List.listTooLong (aJ.toArray.size+fZ.toArray.size))=true:=by
  rw[pI hsz,Bool.and_false];exact zai
 refine zdk F.slot_list_extend ⟨_,e,rfl⟩ F.entry_list_extend (F.args_list_extend_2 _ _)
  (AutoSeq1.list_extend_list_list_0 l aJ.toArray n b fZ.toArray n2 ML (by rw[zaq];omega) (by omega)) ⟨e,e2,?_⟩
 refine⟨.bq,_,I.MK (its':=aJ++fZ) hH e (by simp) (r.je r2) ?_,rfl,q⟩
 rw[zan];omega
noncomputable def amL:V->List V->Hp->VK->Prop:=λx vs H Q=>∃l xs y,x = .ref l/\vs=[]/\H l=some (.bD xs)/\xs[xs.length - 1]? = some y/\Q y (bf H l (.bD xs.dropLast))
theorem amM:MtM X "list.pop" amL:=by
 intro ah s σ H x vs v us Q I rx rv h;obtain⟨l,xs,y,rfl,rfl,hH,hy,q⟩:=h;cases rx;have hus:=rv.zero;subst hus;obtain⟨z,aJ,n,r,hl,e⟩:=I.xq hH;obtain⟨u,hu,ru⟩:=r.get hy;have hy':aJ.toArray[aJ.toArray.size - 1]? = some u:=by
  show aJ.toArray[aJ.length - 1]? = some u
  rw[<-zce,<-hl];exact hu
 refine zdk F.slot_list_pop ⟨_,e,rfl⟩ F.entry_list_pop (F.args_list_pop_1 _) (MeetsSeq.list_pop_last l aJ.toArray n u hy' (by rw[zaq];omega)) ⟨e,?_⟩
 refine⟨y,_,I.MK (its':=aJ.dropLast) hH e ?_ r.dropLast ?_,ru,q⟩
 ·show aJ.toArray.eraseIdxIfInBounds (aJ.toArray.size - 1)=aJ.dropLast.toArray
  rw[zaq,List.eraseIdxIfInBounds_toArray,E9]
 ·rw[List.length_dropLast]
  omega
noncomputable def abi:V->List V->Hp->VK->Prop:=λx vs H Q=>∃l xs,x = .ref l/\vs=[]/\H l=some (.bD xs)/\Q .bq (bf H l (.bD []))
theorem MM:MtM X "list.clear" abi:=by
 intro ah s σ H x vs v us Q I rx rv h;obtain⟨l,xs,rfl,rfl,hH,q⟩:=h;cases rx;have hus:=rv.zero;subst hus;obtain⟨z,aJ,n,r,hl,e⟩:=I.xq hH;refine zdk F.slot_list_clear ⟨_,e,rfl⟩ F.entry_list_clear (F.args_list_clear_1 _) (AutoSeq1.list_clear_list_0 l aJ.toArray n (by rw[zaq];omega)) ⟨e,?_⟩
 exact⟨.bq,_,I.MK (its':=[]) (ys:=[]) hH e rfl .nil (zbM _),rfl,q⟩
def amO:R2:=λx y H Q=>∃l b xs zs,x = .ref l/\y = .ref b/\H l=some (.bD xs)/\H b=some (.bD zs)/\xs.length+zs.length<=sizeLine/\∀p,H p=none->Q (.ref p) (bf H p (.bD (xs++zs)))
theorem abj:kU X (binaryOp .Add) amO:=by
 intro ah s σ H x y v u Q I rx ry h;obtain⟨l,b,xs,zs,rfl,rfl,hH,hB,hz,q⟩:=h;cases rx;cases ry;obtain⟨z,aJ,n,r,hl,e⟩:=I.xq hH;obtain⟨z2,fZ,n2,r2,An,e2⟩:=I.xq hB;refine PySem.P.add_list e e2 ?_ (by rw[zaq,zaq];omega)
 have ea:aJ.toArray++fZ.toArray=(aJ++fZ).toArray:=by simp
 rw[ea];exact⟨.ref _,_,I.ahH (t':=s.toks) (r.je r2) (by rw[zan];omega),rfl,q _ I.fresh⟩
def amP:R2:=λx y H Q=>∃l k xs,x = .ref l/\y = .int k/\H l=some (.bD xs) /\ -(2 ^ 63)<=k/\k<2 ^ 63/\xs.length * k.toNat<=sizeLine /\
 ∀p,H p=none->Q (.ref p) (bf H p (.bD (List.replicate k.toNat xs).flatten))
theorem Th {α:Type}(xs:List α)(k:Nat):(List.replicate k xs).flatten.length=k * xs.length:=by
 induction k with
 |zero=>simp
 |succ k ih=>rw[zaD,zcl,zan,ih,Nat.succ_mul,Nat.add_comm]
theorem abk:kU X (binaryOp .Mult) amP:=by
 intro ah s σ H x y v u Q I rx ry h;obtain⟨l,k,xs,rfl,rfl,hH,h1,h2,hz,q⟩:=h;cases rx;obtain⟨t,rfl⟩:=ry;obtain⟨z,aJ,n,r,hl,e⟩:=I.xq hH;have cM:aJ.toArray.size * k.toNat<=sizeLine:=by rw[zaq,<-hl];exact hz
 have amQ:¬ aJ.toArray.size * k.toNat > (2 ^ 63 - 1) / 8:=by
  have:(sizeLine:Nat)<=(2 ^ 63 - 1) / 8:=by decide
  omega
 have amR:¬ (!Builtin.List.listFitsIndex k)=true:=by
  rw[fitsIndex_both h1 h2];exact zai
 have ML:¬ Builtin.List.listTooLong (aJ.toArray.size * k.toNat)=true:=by
  rw[pI cM];exact zai
 have MN:List.foldl (λx1 x2=>x1++x2) #[] (List.replicate (if aJ.toArray.isEmpty=true then 0 else k.toNat) aJ.toArray)=(List.replicate k.toNat aJ).flatten.toArray:=by
  have f0:∀m:Nat,List.foldl (λx1 x2=>x1++x2) #[] (List.replicate m aJ.toArray)=(List.replicate m aJ).flatten.toArray:=λm=>by
   have:=yu aJ m []
   rw[zdA] at this;exact this
  rw[f0];cases aJ with
  |nil=>simp
  |cons a r'=>rw[if_neg (by simp)]
 refine wpAny_binaryOp_repeat_ref (T:= "list") (U:= "int") (by decide) ⟨_,e,rfl⟩ (λs'=>typeIs_int s' k t) noFill_list_mul F.fills_int_mul F.slot_int_rmul repeat_list F.slot_int_index.lookup
  (zdk F.slot_int_rmul (typeIs_int s k t) F.entry_int_rmul (F.args_int_rmul_2 _ _) (int___rmul___int_list k t l aJ.toArray n)
   ⟨e,rfl,⟨_,e,rfl⟩,zdk F.slot_list_mul ⟨_,e,rfl⟩ F.entry_list_mul (F.args_list_mul_2 _ _) (AutoListH.list___mul___list_int_3 l aJ.toArray n k t amR amQ ML) ⟨e,?_⟩⟩)
 rw[MN];exact⟨.ref _,_,I.ahH (t':=s.toks) (r.rep k.toNat) (by rw[Th,Nat.mul_comm];exact hz),rfl,q _ I.fresh⟩
theorem JP (aJ fZ:List Value)(a c:Nat):aJ.toArray.extract 0 a++fZ.toArray++aJ.toArray.extract c aJ.toArray.size=(aJ.take a++fZ++aJ.drop c).toArray:=by
  apply Array.toList_inj.mp
  first
    | (simp
       exact zbd (by simp))
    |simp[zbd]
    |simp
theorem E_ {a c n:Nat}(hac:a<=c)(hc:c<=n):sliceBounds (some (a:Int)) (some (c:Int)) none n=((a:Int),(c:Int),1):=by
 simp only[sliceBounds,zer];have h1:¬ ((a:Int)<0):=by omega
 have h2:¬ ((c:Int)<0):=by omega
 simp only[h1,h2,if_false,show (1:Int) > 0 by decide,if_true]
 congr 1
 ·omega
 ·congr 1;omega
set_option maxRecDepth 100000 in
theorem xu {l b sl:Addr}{items new:Array Value}{n n2:Nat}{vl vu:Value}{a c:Nat}{Q:Unit->Shared->Prop}
    (e:s.heap.get? l=some { cls:=.type "list",data:=.seq items n}) (e2:s.heap.get? b=some { cls:=.type "list",data:=.seq new n2}) (o_:l≠b)
    (hs:s.heap.IsSliceOf sl vl vu .none) (pl:IsPart vl (some (a:Int))) (pu:IsPart vu (some (c:Int))) (hac:a<=c) (hc:c<=items.size)
    (hsz:items.size+new.size<=sizeLine) (h:Q () {s with heap:=s.heap.update l (Obj.mapSeq λxs=>xs.extract 0 a++new++xs.extract c xs.size)}):
    wpAny (model prog w) A (setItem (.ref l) (.ref sl) (.ref b)) Q E s:=by
  have hl:s.heap.IsList l items:=PySem.IsL.isList e
  have hb:s.heap.IsList b new:=PySem.IsL.isList e2
  obtain⟨os,LI,WR,WS⟩:=id hs;have hTs:s.TypeIs (.ref sl) "slice" := ⟨os,LI,WR⟩
  have ahI:¬ ((rawPart none == rawInt 0)=true):=zai
  have MO:Builtin.List.listSameRef (.ref l) (.ref b)=false:=by
    unfold Builtin.List.listSameRef;exact beq_eq_false_iff_ne.mpr o_
  have amS:(max (a:Int) (c:Int)).toNat=c:=by omega
  have MP:((λxs:Array Value=>xs.extract 0 a++new++xs.extract c xs.size) items).size<=sizeLine+1:=by
    simp only[Array.size_append,Array.size_extract];omega
  unfold setItem;try with_reducible refine zaz ?_
  first|refine zaa (zac ?_)|skip
  refine zaa (wpAny_sequenceKey hl.typeIs (by decide) ?_)
  refine zaa (zaH (name:=Str.ofString "__setitem__") hl.typeIs slot_list_setitem
    (zaF slot_list_setitem hl.typeIs entry_list_setitem ?_ (args_list_setitem _ _ _)))
  show wpAny _ _ (Builtin.List.listSubscript? (.ref sl) >>= _) _ _ s
  refine zaa ?_
  unfold Builtin.List.listSubscript?
  refine zaa (zdy hTs slice_no_index ?_)
  simp only[zdR,if_true];refine zac ?_
  show wpAny _ _ (typeOf (.ref sl) >>= _) _ _ s
  refine zaa (zcK hTs ?_)
  first
    |rw[if_neg (by decide)]
    |refine zdS (by decide) ?_
  rw[listSliceParts_eq];refine zaa (zaa (zay LI WS (x:=.none) rfl (zaa (zeV .none ?_))))
  rw[if_neg ahI];refine zaa (zay LI WS (x:=vl) rfl (zaa (zeV pl ?_)))
  refine zaa (zay LI WS (x:=vu) rfl (zaa (zeV pu (zac ?_))))
  first
    |simp only[MO,zaC,if_false]
    |refine zdS MO ?_
    | (dsimp only
       rw[if_neg (by rw[MO];exact zai)])
  refine zaa (m:=Builtin.List.listAllItems (.ref b) "must assign iterable to extended slice") ?_
  unfold Builtin.List.listAllItems;refine zaa (zcK hb.typeIs ?_)
  first
    |refine PySem.W.KFB.if_so (by decide) ?_
    |rw[if_pos (by decide)]
    |simp only[beq_self_eq_true,Bool.true_or,if_true]
  unfold Builtin.List.listItems;refine zaa (zbq e2 rfl (zac ?_))
  refine zaa (zaa (zbq e rfl (zac ?_)))
  refine zaa (zdp ((sliceIndices_raw (some (a:Int)) (some (c:Int)) none items.size (by simp)).trans (congrArg (pure:Int×Int×Int->Sem (Int×Int×Int)) (E_ hac hc))) ?_)
  show wpAny _ _ (if ((1:Int) == 1)=true then _ else _) _ _ s
  rw[if_pos (by decide)]
  refine zaa (zcA ?_)
  first
    |simp only[pI hsz,zaC,if_false]
    |refine zdS (pI hsz) ?_
  first|refine zaa (zac ?_)|skip
  show wpAny _ _ (updateSeq l (λxs=>xs.extract 0 ((a:Int)).toNat++new++xs.extract (max (a:Int) (c:Int)).toNat xs.size) >>= _) _ _ s
  rw[amS,zbs];refine zaa (zeE (hz:=zah (zbw _ _) hsz) (_hz':=MP) e rfl ?_)
  refine zaa (zeP ?_)
  first
    |exact zaa (zac (zac ⟨.none,rfl,zac h⟩))
    |exact zac ⟨.none,rfl,zac h⟩
end L2
namespace Att
open PySem PySem.W PySem.Calls PyProof.Rows
theorem sF:∀(ns:List Int) (vs:List Value),WellAll P h vs (ns.map WData.int)->IntsAre vs ns:=by
 intro ns;induction ns with
 |nil =>
  intro vs w;rw[zcc] at w;cases w;exact .nil
 |cons n ns ih =>
  intro vs w;rw[zat] at w;cases w with
  |cons a b =>
   cases a;exact .cons _ _ (ih _ b)
theorem JQ {l:OpenLaw}{n:Nat}(hn:l.most=some n){P:Params}{h:Heap}{args:List WData}{abl:List Value}
  (Ti:l.row.toRowW.claim.pre args=true) (hwl:WellAll P h abl args):
  ∃a vs ns,abl=[Value.ref a]/\args=[WData.list (ns.map WData.int)]/\h.get? a=some { cls:=.type "list",data:=.seq vs.toArray}/\IntsAre vs ns/\ns.length<=n:=by
 have hsh:WShape.hasAll [] args [.list .int]=true:=(pre_splitW Ti).1
 have hc:l.pre.holds [] {args:=args}=true:=(pre_splitW Ti).2
 obtain⟨d,r,rfl,h1,h2⟩:=hasAllW_cons hsh;obtain rfl:=hasAllW_nil h2
 obtain⟨xs,rfl,h3⟩:=hasW_list h1;obtain⟨ns,rfl⟩:=items_int h3;have cM:ns.length<=n:=by
  unfold OpenLaw.pre at hc;have h4:(WTm.not (.lt (.lit (.int (n:Int))) (.len (.arg 0)))).holds [] {args:=[.list (ns.map .int)]}=true:=by
   have h4:=(holds_andW hc).1
   rw[hn] at h4;exact h4
  have h5:=condW_of h4 (w_not (w_lt w_lit (w_len_list (w_arg rfl))))
  rw[zad] at h5;refine Nat.le_of_not_lt λq=>?_
  have q':(n:Int)<((ns.length:Nat):Int):=by omega
  first
   | (rw[decide_eq_true q'] at h5;exact absurd h5 (by decide))
   | (simp at h5;omega)
 cases hwl with
 |cons w1 w2 =>
  cases w2;cases w1 with
  |list ho MC=>exact⟨_,_,ns,rfl,rfl,ho,sF ns _ MC,cM⟩
theorem JR (l:OpenLaw)(args:List WData):l.row.toRowW.claim.post args (.bool true) args=true:=
 postW_of (r:=l.row.toRowW) (X:=(true == true))
  (show WShape.has [] (.bool true) .bool=true by first|rfl|decide|simp[WShape.has,WShape.arms,WShape.armsAll])
  (show (WTm.eq .res (.lit (.bool true))).value [] {args:=args,res:=some (.bool true),after:=args}=some (.bool (true == true)) from w_eq_bool (w_res rfl) w_lit) rfl
theorem B5 {l:OpenLaw}{n:Nat}{q:Program}{yw:List Str}{XP:(Str->Option Value)->Heap->Prop}{YP:World->Heap->Prop}{d:DefRec}
  (hn:l.most=some n) (hdf:d.params.defaults=[])
  (call:∀(w:World) (s₀ cD:Shared) (mg mb:Str->Option Value) (fa:Addr) (o:Obj) (pm cd oO:Value) (a:Addr) (vs:List Value) (ns:List Int),
   Ground q yw [] XP w s₀ mg mb cD.heap->YP w cD.heap ->
   cD.heap.get? fa=some o->o.data = .func (docDef d.name d.params d.body d.scope pm cd oO)->cD.heap.CodeRec cd d.name->mg d.name=some (.ref fa) ->
   cD.heap.get? a=some { cls:=.type "list",data:=.seq vs.toArray}->IntsAre vs ns->ns.length<=n->cD.gens = #[] ->
   codeAny (model l.prog w) callerA (.call (.ref fa) ⟨[.ref a],[]⟩) (λr s'=>r = .ok (.ret (.bool true))/\OldK cD.heap s'.heap/\s'.os=cD.os/\AllBare s'.gens) cD):
  WalkO q yw XP YP l.row.toRowW d [] (λf vs=>PySem.call f vs):=by
 intro w s₀ cD mg mb G Y fa o pm cd oO dV kV ho hd BQ hD hmg hg args abl as Ti arp hrd hwl hlo;obtain rfl:dV = .none:=Dflts.none hD hdf
 obtain rfl:kV = .none:=Dflts.noKw hD
 obtain⟨a,vs,ns,rfl,rfl,abm,MQ,cM⟩:=JQ hn Ti hwl;refine enter_call (zcp (call w s₀ cD mg mb fa o pm cd oO a vs ns G Y ho (fd_plain hd) BQ hmg abm MQ cM hg) λr s' hq=>?_)
 obtain⟨rfl,h2,h3,h4⟩:=hq;exact⟨.inl ⟨.bool true,.bool true,[],rfl,λ_=>rfl,.bool true,JR l _,λ_=>⟨List.Pairwise.nil,λ_ hm=>(nomatch hm)⟩⟩,h2,h3,h4⟩
section
variable {prog:Program}{w:World}{A:Around}{E:Value->Shared->Prop}{s:Shared}{K:Frag}
end
end Att
namespace L2
open PySem PySem.Spec PyProof.Rows
theorem yx:∀{vs:List Value} {ns:List Int},IntsAre vs ns->bE (ns.map V.int) vs
 |_,_,.nil=>.nil
 |_,_,.cons n t h=>.cons ⟨t,rfl⟩ (yx h)
def bF (H:Hp):Prop:=∀b,H b=none\/∃o xs,H b=some (.qH o (.bD xs))
theorem MR {P:Program}{w:World}{K:PySem.W.Frag}{mg mb:Str->Option Value}{CX:BV}{k:Nat}{fa a:Addr}{fd:FuncData}{x:Str}{sp:Sp}{cD:Shared}{vs:List Value}{ns:List Int}
  (KX:K.In cD.heap) (B6:cD.heap.Ns mainGlobals mg) (hb:cD.heap.Ns builtinsNs mb) (hbb:∀x:Str,x ≠ "__name__" -> mb x=bootBuiltins x) (amV:cD.heap.NoLimit) (hg:cD.gens = #[])
  (ha:cD.heap.get? a=some { cls:=.type "list",data:=.seq vs.toArray}) (hi:IntsAre vs ns) (hl:ns.length<=sizeLine) (hr:gU k callerA)
  (F:∀base:Heap,K.In base->base.Ns mainGlobals mg->aP P w K mg base CX k fa fd [x] sp) (ahK:∀(s:Shared) (u:Value),BindsTo s fd ⟨[u],[]⟩ [(x,u)])
  (LH:∀H:Hp,bF H->jy K H a (ns.map V.int)->sp [.ref a] H (λv _=>v = .bl true) λ_ _ _=>False)
  (hCX:∀H e s',CX [] H cD (λ_ _ _=>False) e s'->False):
  codeAny (model P w) callerA (.call (.ref fa) ⟨[.ref a],[]⟩) (λr s'=>r = .ok (.ret (.bool true))/\OldK cD.heap s'.heap/\s'.os=cD.os/\AllBare s'.gens) cD:=by
 have rv:=yx hi;have amX:=hi.length;-- from an abstract heap in apD aly but yc LY may be z8
 have ahL:∀H:Hp,bF H->jy K H a (ns.map V.int)->nV P w H cD.heap->(∀b,H b≠none->b=a)->(H a≠none->K.lookup a=none) ->
   codeAny (model P w) callerA (.call (.ref fa) ⟨[.ref a],[]⟩) (λr s'=>r = .ok (.ret (.bool true))/\OldK cD.heap s'.heap/\s'.os=cD.os/\AllBare s'.gens) cD:=by
  intro H hO hS bZ hA hK;have Hq:∀{b:Addr} {o:Obj},cD.heap.get? b=some o->H b=none->(z6 cD.heap H).get? b=some o:=λe n=>LZ e n
  have noA:∀{b:Addr} {o:Obj} {es:Array DictEntry} {ep:Nat},cD.heap.get? b=some o->o.data = .dict es ep->H b=none:=λ{b o es ep} e d=>by
   cases q:H b with
   |none=>rfl
   |some u =>
    have e':b=a:=hA b (by rw[q];simp)
    subst e';rw[ha] at e;cases e
    have d':Data.seq vs.toArray _=Data.dict es ep:=d
    cases d'
  have nsK:∀{b:Addr} {m:Str->Option Value},cD.heap.Ns b m->(z6 cD.heap H).Ns b m:=λ{b m} ⟨o,es,ep,e,d,r⟩=>⟨o,es,ep,Hq e (noA e d),d,r⟩
  have hKb:K.In (z6 cD.heap H):=λb o e=>Hq (KX b o e) (by
   cases q:H b with
   |none=>rfl
   |some u =>
    have e':b=a:=hA b (by rw[q];simp)
    subst e';rw[hK (by rw[q];simp)] at e;cases e)
  have hM:Mod K mg (z6 cD.heap H):=⟨hKb,nsK B6,⟨mb,nsK hb,hbb⟩,let ⟨mc,h1,h2⟩:=amV;⟨mc,nsK h1,h2⟩⟩
  have e0:EZ P w K mg (z6 cD.heap H) callerA [] cD H:=⟨rfl,hM,λb o e=>R_ e,Nat.le_of_eq (Jz _ _),trivial,λb hb=>absurd (show b∈([]:List Addr) from hb) (by simp),bZ,.of_eq hg⟩
  refine zcp ((F _ hKb (nsK B6)).kY callerA [] cD H ⟨[.ref a],[]⟩ [.ref a] [.ref a] _ _ hr e0 (ahK cD (.ref a)) (.cons rfl .nil) (LH H hO hS)) λr s' h=>?_
  cases r with
  |error e=>exact (hCX H e s' h).elim
  |ok fl =>
   cases fl with
   |next=>exact False.elim h
   |brk=>exact False.elim h
   |cont=>exact False.elim h
   |ret u =>
    obtain⟨v,H',os,iX,un,amY,r',q⟩:=h;have q':v = .bl true:=q
    subst q';obtain rfl:u=Value.bool true:=r'
    refine⟨rfl,OldK.of_keep λb o e=>?_,os,iX⟩
    cases q:H b with
    |none=>exact un.keep b o e q (by intro z;exact absurd (show b∈([]:List Addr) from z) (by simp)) (by simp)
    |some u =>
     rcases hO b with z|⟨ob,xs,z⟩
     ·rw[q] at z;cases z
     ·have z2:=un.tG b ob _ z
      obtain⟨e1,_⟩:=bZ b _ z;obtain⟨e2,_⟩:=amY b _ z2;rw[e] at e1;cases e1
      exact e2
 cases hk:K.lookup a with
 |some o =>
  -- yc LY is R8 of yc ahM tF Sk
  have e:=KX a o hk;rw[ha] at e;cases e;refine ahL (λ_=>none) (λ_=>.inl rfl) (.inr ⟨_,vs.toArray,_,hk,rfl,rfl,rfl,by rw[zaq,amX];exact hl,by simpa using rv⟩) (λb u z=>by have z':(none:Option HO)=some u:=z;cases z') (λb z=>absurd rfl z) λz=>absurd rfl z
 |none =>
  refine ahL (λb=>if b=a then some (.qH { cls:=.type "list",data:=.seq vs.toArray} (.bD (ns.map V.int))) else none) (λb=>?_) (.inl (.inr ⟨{ cls:=.type "list",data:=.seq vs.toArray},if_pos rfl⟩)) (λb u z=>?_) (λb z=>?_) λ_=>hk
  ·by_cases hb:b=a
   ·exact .inr ⟨_,_,if_pos hb⟩
   ·exact .inl (if_neg hb)
  ·by_cases hb:b=a
   ·have z':=(if_pos hb).symm.trans z
    cases z';subst hb;exact⟨ha,by rw[zad];exact hl,vs,_,rv,ha⟩
   ·have z':=(if_neg hb).symm.trans z
    cases z'
  ·by_cases hb:b=a
   ·exact hb
   ·exact absurd (if_neg hb) z
theorem Tj {l:PySem.W.OpenLaw}{n k:Nat}{q:Program}{yw:List Str}{XP:(Str->Option Value)->Heap->Prop}{YP:World->Heap->Prop}{d:DefRec}{K:Params->PySem.W.Frag}{CX:World->BV}{sp:World->Sp}{x:Str}
  (hn:l.most=some n) (RP:n<=sizeLine) (hdf:d.params.defaults=[]) (hr:gU k callerA)
  (hY:∀(w:World) (h:Heap),YP w h->(K w.params).In h)
  (F:∀(w:World) (mg:Str->Option Value) (fa:Addr) (h:Heap),(K w.params).In h->h.Ns mainGlobals mg->mg d.name=some (.ref fa) ->
   ∃fd:FuncData,(∀(s:Shared) (u:Value),BindsTo s fd ⟨[u],[]⟩ [(x,u)]) /\
    ∀base:Heap,(K w.params).In base->base.Ns mainGlobals mg->aP l.prog w (K w.params) mg base (CX w) k fa fd [x] (sp w))
  (LH:∀(w:World) (H:Hp) (a:Addr) (ns:List Int),ns.length<=n->bF H->jy (K w.params) H a (ns.map V.int)->sp w [.ref a] H (λv _=>v = .bl true) λ_ _ _=>False)
  (hCX:∀(w:World) (H:Hp) (s:Shared) (e:Value) (s':Shared),CX w [] H s (λ_ _ _=>False) e s'->False):
  PySem.W.WalkO q yw XP YP l.row.toRowW d [] (λf vs=>PySem.call f vs):=by
 refine Att.B5 hn hdf λw s₀ cD mg mb fa o pm cd oO a vs ns G Y ho hd BQ hmg abm MQ cM hg=>?_
 have KX:=hY w _ Y;obtain⟨fd,hb,hF⟩:=F w mg fa _ KX G.T.g hmg;exact MR KX G.T.g G.T.b G.T.builtins G.T.nolimit hg abm MQ (zah cM RP) hr hF hb (λH hO hS=>LH w H a ns cM hO hS) λH e s'=>hCX w H cD e s'
def aW (s:Stmt)(j:Nat):Stmt:=match s with
 |.ClassDef _ _ _ body _ _ _ _ _ _ _=>body.getD j (.Pass ⟨0,0,0,0⟩)
 |_=>.Pass ⟨0,0,0,0⟩
noncomputable def d_ (s:Stmt):Arguments:=match s with
 |.FunctionDef _ a _ _ _ _ _ _ _ _=>a
 |_=>{posonlyargs:=[],args:=[],vararg:=none,kwonlyargs:=[],kw_defaults:=[],kwarg:=none,defaults:=[]}
noncomputable def cT (s:Stmt):List Stmt:=match s with
 |.FunctionDef _ _ b _ _ _ _ _ _ _=>b
 |_=>[]
noncomputable def aj (s:Stmt):Scope:=match s with
 |.FunctionDef _ _ _ _ _ _ sc _ _ _=>sc
 |_=>{kind:=.function,names:=[],isGenerator:=false,isCoroutine:=false}
noncomputable abbrev eO:BV:=λ_ _ _ _ _ _=>False
noncomputable abbrev E0:XK:=λ_ _ _=>False
structure LJ (K:PySem.W.Frag) (x bY:Str) (st:Stmt) (f:Addr) (fd:FuncData):Prop where
 ex:∃(oc:Value) (od:Option Addr) (kV oO pm:Value) (an:Option Addr) (fG ct:Value) (E4:Array (Option Value)),
  fd=PySem.W.fnOf x bY (d_ st) (cT st) (aj st) .none kV oO pm an fG ct/\K.lookup f=some ⟨oc,od,.func fd,E4⟩/\PySem.W.codeIn K fG bY=true
 kp:PySem.W.keepIn K (.ref f)=true
section
variable {P:Program}{w:World}{K:PySem.W.Frag}{mg:Str->Option Value}{base:Heap}
theorem LJ.ok {x bY:Str}{st:Stmt}{f:Addr}{fd:FuncData}{N ps:List Str}{k:Nat}{sp:Sp}(F:LJ K x bY st f fd)(S:au N ps (aj st))(len:∀vs H Q E,sp vs H Q E->vs.length=ps.length)
  (tV:∀(fG:Value) (A:Around) (outer:List Env) (s:Shared) (H:Hp) (vs:List V) (Q:VK) (E:XK),gU k (A.deeper (envOfC bY (aj st) s.heap.objs.size f fG))->sp vs H Q E ->
   ∃t,yf (jC eO P w K mg base N bY (aj st) f fG A outer s H E).Et (cT st) t/\t {nx:=λ_ H'=>Q .bq H',rt:=Q} (cW N vs) H):aP P w K mg base eO (k+1) f fd ps sp:=by
 obtain⟨oc,od,kV,oO,pm,an,fG,ct,E4,rfl,lk,BQ⟩:=F.ex;refine Mt lk BQ S len λA outer s H vs Q E hr LH=>?_
 obtain⟨t,h,q⟩:=tV fG A outer s H vs Q E hr LH;exact⟨t,h.Et,q⟩
theorem LJ.rH {x bY:Str}{st:Stmt}{f:Addr}{fd:FuncData}{ps:List Str}(F:LJ K x bY st f fd)
  (h:∀(kV oO pm:Value) (an:Option Addr) (fG ct:Value) (us:List Value),us.length=ps.length->bindArgs (PySem.W.fnOf x bY (d_ st) (cT st) (aj st) .none kV oO pm an fG ct) ⟨us,[]⟩=pure (ps.zip us)):eW K fd ps []:=by
 obtain⟨oc,od,kV,oO,pm,an,fG,ct,E4,rfl,lk,BQ⟩:=F.ex;exact .all (h kV oO pm an fG ct)
theorem Ao {x bY:Str}{st:Stmt}{f:Addr}{oc:Value}{od an:Option Addr}{E4:Array (Option Value)}{kV oO pm fG ct:Value}(l:K.lookup f=some ⟨oc,od,.func (PySem.W.fnOf x bY (d_ st) (cT st) (aj st) .none kV oO pm an fG ct),E4⟩)
  (c:PySem.W.codeIn K fG bY=true) (k:PySem.W.keepIn K (.ref f)=true):LJ K x bY st f (PySem.W.fnOf x bY (d_ st) (cT st) (aj st) .none kV oO pm an fG ct):=⟨⟨oc,od,kV,oO,pm,an,fG,ct,E4,rfl,l,c⟩,k⟩
end
theorem pv (i:Nat)(hN:X.N[i]? = some x:=by rfl)(hv:Vis X.env.scope x:=by first|exact Or.inl rfl|exact Or.inr (Or.inl rfl)|exact Or.inr (Or.inr rfl))(hd:(x == ("__debug__":Str))=false:=by decide)
  (BQ:(x == ("__classdict__":Str))=false:=by decide):PE X (.Name x pos) (agQ i):=L4 hN hv hd BQ
theorem JS:ig X (.builtin "len") (λxs H Q=>∃a aI,xs=[V.ref a]/\H a=some (.dK aI)/\Q (.int aI.length) H):=by
 intro ah s σ H xs us Q I r h;obtain⟨a,aI,rfl,ha,q⟩:=h;obtain⟨u,rfl,ru⟩:=j9 r;cases ru;exact ahs I (.inl ha) λt s' I'=>⟨.int aI.length,H,I',⟨t,rfl⟩,q⟩
theorem B7 {A B:Prop}(h:B):if false=true then A else B:=by
 rw[if_neg zai];exact h
theorem B8 {A B:Prop}(h:A):if true=true then A else B:=by
 rw[if_pos rfl];exact h
section
variable {κ:Type}[DecidableEq κ]
end
noncomputable def pJ (env:Env):List (Str×NameKind)->List (Str×Addr)->List (Str×Addr)
 |[],cs=>cs
 | (n,k)::r,cs=>pJ env r (if (k == NameKind.free)=true then (match env.cells.lookup n with|some c=>(n,c)::cs|none=>cs) else cs)
theorem Fb (h:∀p∈scope.names,p.2 = .free->∃c,env.cells.lookup p.1=some c):closureFor scope env=pure (pJ env scope.names []):=by
 have key:∀(l:List (Str×NameKind)) (cs:List (Str×Addr)),(∀p∈l,p.2 = .free->∃c,env.cells.lookup p.1=some c) ->
   (forIn l cs λ(x:Str×NameKind) (r:List (Str×Addr))=>match x with
    | (name,kind)=>if (kind == NameKind.free)=true then do let a <-cellOf env name;pure (ForInStep.yield ((name,a)::r)) else pure (ForInStep.yield r):Sem (List (Str×Addr)))=pure (pJ env l cs):=by
  intro l;induction l with
  |nil=>intro cs _;rfl
  |cons p r ih =>
   intro cs hl;obtain⟨n,k⟩:=p;rw[List.forIn_cons];have hr:=λcs=>ih cs λq hq=>hl q (zaJ _ hq)
   show (_ >>= _)=pure (pJ env r (if (k == NameKind.free)=true then (match env.cells.lookup n with|some c=>(n,c)::cs|none=>cs) else cs))
   by_cases hk:(k == NameKind.free)=true
   ·obtain⟨c,hc⟩:=hl (n,k) zbI (by simpa using hk)
    dsimp only at hc ⊢
    rw[if_pos hk,if_pos hk,hc];have e:cellOf env n=pure c:=by unfold cellOf;rw[hc]
    rw[e,pure_bind,pure_bind];exact hr _
   ·dsimp only
    rw[if_neg hk,if_neg hk,pure_bind];exact hr _
 unfold closureFor;rw[show (pure (pJ env scope.names []):Sem (List (Str×Addr)))=(pure (pJ env scope.names []) >>= λr=>pure r) from (bind_pure _).symm,<-key scope.names [] h]
theorem mR:∀{l:List (Str×NameKind)} {cs:List (Str×Addr)},(pJ env l cs).lookup x=some c->cs.lookup x=some c\/env.cells.lookup x=some c
 |[],_,h=>.inl h
 | (n,k)::r,cs,h=>by
  rcases mR (l:=r) h with q|q
  ·by_cases hk:(k == NameKind.free)=true
   ·rw[if_pos hk] at q
    cases e:env.cells.lookup n with
    |none=>rw[e] at q;exact .inl q
    |some d =>
     rw[e] at q;dsimp only at q
     rw[zaV] at q;cases hx:x == n with
     |true =>
      rw[hx] at q;have:x=n:=by simpa using hx
      subst this;dsimp only at q
      rw[<-q];exact .inr e
     |false=>rw[hx] at q;exact .inl q
   ·rw[if_neg hk] at q;exact .inl q
  ·exact .inr q
theorem t_:∀{l:List (Str×NameKind)} {cs:List (Str×Addr)},((x,NameKind.free)∈l/\(∃c,env.cells.lookup x=some c))\/(∃c,cs.lookup x=some c)->∃c,(pJ env l cs).lookup x=some c
 |[],cs,h=>by
  rcases h with⟨h,_⟩|h
  ·exact absurd h (by simp)
  ·exact h
 | (n,k)::r,cs,h=>by
  refine t_ (l:=r) ?_
  rcases h with⟨h,hc⟩|h
  ·rcases zam.mp h with e|h
   ·have e1:x=n:=congrArg (·.1) e
    have e2:NameKind.free=k:=congrArg (·.2) e
    subst e1 e2;obtain⟨c,hc⟩:=hc;refine .inr ⟨c,?_⟩
    rw[if_pos (by decide),hc]
    simp[zaV]
   ·exact .inl ⟨h,hc⟩
  ·obtain⟨c,hc⟩:=h
   right
   by_cases hk:(k == NameKind.free)=true
   ·rw[if_pos hk]
    cases e:env.cells.lookup n with
    |none=>exact⟨c,hc⟩
    |some d =>
     dsimp only;rw[zaV];cases hx:x == n with
     |true=>exact⟨d,rfl⟩
     |false=>exact⟨c,hc⟩
   ·rw[if_neg hk];exact⟨c,hc⟩
theorem kZ {env:Env}:∀{names:List (Str×NameKind)} {k:NameKind},
  (names.map λ(p:Str×NameKind)=>match p with | (n,k)=>if (k == NameKind.free && env.scope.kind == .function && env.kindOf n == some .cell)=true then (n,NameKind.cell) else (n,k)).lookup x=some k ->
  ∃k',names.lookup x=some k'/\(k'=k\/(k' = .free/\k = .cell))
 |[],_,h=>by simp at h
 | (n,k0)::r,k,h=>by
  rw[zat] at h;by_cases hc:(k0 == NameKind.free && env.scope.kind == .function && env.kindOf n == some .cell)=true
  ·dsimp only at h
   rw[if_pos hc,zaV] at h;rw[zaV];cases hx:x == n with
   |true =>
    rw[hx] at h;have e:NameKind.cell=k:=zaw h
    have e0:k0 = .free:=by
     simp only[zcO,beq_iff_eq] at hc;exact hc.1.1
    exact⟨k0,rfl,.inr ⟨e0,e.symm⟩⟩
   |false=>rw[hx] at h;exact kZ (names:=r) h
  ·dsimp only at h
   rw[if_neg hc,zaV] at h;rw[zaV];cases hx:x == n with
   |true=>rw[hx] at h;exact⟨k0,rfl,.inl (zaw h)⟩
   |false=>rw[hx] at h;exact kZ (names:=r) h
theorem k8 {env:Env}:∀{names:List (Str×NameKind)},names.lookup x=some .free ->
  (names.map λ(p:Str×NameKind)=>match p with | (n,k)=>if (k == NameKind.free && env.scope.kind == .function && env.kindOf n == some .cell)=true then (n,NameKind.cell) else (n,k)).lookup x=some .cell \/
  (names.map λ(p:Str×NameKind)=>match p with | (n,k)=>if (k == NameKind.free && env.scope.kind == .function && env.kindOf n == some .cell)=true then (n,NameKind.cell) else (n,k)).lookup x=some .free
 |[],h=>by simp at h
 | (n,k0)::r,h=>by
  rw[zat];rw[zaV] at h;by_cases hc:(k0 == NameKind.free && env.scope.kind == .function && env.kindOf n == some .cell)=true
  ·dsimp only
   rw[if_pos hc,zaV];cases hx:x == n with
   |true=>exact .inl rfl
   |false=>rw[hx] at h;exact k8 (names:=r) h
  ·dsimp only
   rw[if_neg hc,zaV];cases hx:x == n with
   |true=>rw[hx] at h;exact .inr h
   |false=>rw[hx] at h;exact k8 (names:=r) h
theorem Aq (I:Nat->Shared->Prop)
  (Me:∀n s,I n s->wpAny (model prog w) A (pyNext it) (λr cD=>match r with
   |none=>R (.ok .next) cD
   |some v=>wpAny (model prog w) A (letOwnedTupleGo target it v) (λ_ WT=>wpAny (model prog w) A (assign target env v) (λ_ j7 =>
     wpAny (model prog w) A (forIn qL true λc r=>if r=true then do let ok <-isTrue c env (eval c env);pure (ForInStep.yield ok) else pure (ForInStep.yield r)) (λok xm =>
      if ok=true then wpAny (model prog w) A (eval yz env) (λx ahN =>
       wpAny (model prog w) A (call (.builtin "list.append") [bO,x]) (λ_ ahO=>∃m,m<n/\I m ahO) (notedBy (model prog w) A env λe s'=>R (.error e) s') ahN) (notedBy (model prog w) A env λe s'=>R (.error e) s') xm
      else ∃m,m<n/\I m xm) (notedBy (model prog w) A env λe s'=>R (.error e) s') j7) (notedBy (model prog w) A env λe s'=>R (.error e) s') WT) (notedBy (model prog w) A env λe s'=>R (.error e) s') cD) (notedBy (model prog w) A env λe s'=>R (.error e) s') s)
  (n:Nat) (h:I n s):
  codeAny (model prog w) A (.compLoop (.ListComp yz [⟨target,dS,qL,0⟩] scope pos) 0 it bO env) R s:=by
 refine codeAny_loop rfl I (λn s hI=>?_) n h
 show wpAny _ A ((compTurn (.ListComp yz [⟨target,dS,qL,0⟩] scope pos) 0 it bO env).onRaise (λx=>do noteFrame x env;theTreesLotGoes x)) _ _ s
 refine wpAny_noted ?_
 rw[compTurn_list];refine zaa (zcx (zaa (zaO (Me n s hI) (λr cD SO=>?_) λ_ _ h'=>h')))
 cases r with
 |none=>exact zac SO
 |some v =>
  refine zaa (zaO SO (λ_ WT ahP=>?_) λ_ _ h'=>h')
  refine zaa (zaO ahP (λ_ j7 Mv=>zaa (zaO Mv (λok xm SQ=>?_) λ_ _ h'=>h')) λ_ _ h'=>h')
  cases ok with
  |false=>exact zac ⟨rfl,SQ⟩
  |true =>
   exact zaa (zaa (zaO SQ (λx ahN amZ=>zaa (zaO amZ (λ_ ahO am0=>zac (zac ⟨rfl,am0⟩)) λ_ _ h'=>h')) λ_ _ h'=>h'))
def pK (X:Cx)(N:List Str)(sc:Scope)(C:Addr)(fp:List Addr)(s:Shared)(H:Hp)(xe:Value->Shared->Prop):Cx:=
 {X with N:=N,s₀:= s,H₀:= H,env:=compEnvC sc (pJ X.env sc.names []) C X.env,outer:=X.dc,ex:=fp,fn:=λ_=>false,pn:=[],xe:=xe}
def Fc (X:Cx)(qL:List Expr)(t:TT):Prop:=
 ∀(ah:List (Addr×Obj)) (s:Shared) (σ:St) (H:Hp) (Q:Bool->Hp->Prop),aH X ah σ H s->t σ H Q ->
  wpAny (model X.prog X.w) X.A (forIn qL true λc r=>if r=true then do let ok <-isTrue c X.env (eval c X.env);pure (ForInStep.yield ok) else pure (ForInStep.yield r)) (TP X ah σ Q) X.xe s
def ahQ:TT:=λ_ H Q=>Q true H
theorem Tn:Fc X [] ahQ:=λah s σ H Q I h=>wpAny_tests_nil ⟨H,I,h⟩
theorem To (h:PT X c t):Fc X [c] t:=λah s σ H Q I q=>wpAny_tests_one (h ah s σ H Q I q)
structure c9 (X:Cx) (F T:List Str) (fr:List Nat) (sc:Scope):Prop where
 kind:sc.kind = .function
 MS:∀y∈sc.names,y.2 ≠ .cell
 locals:∀y∈sc.names,y.2 = .local->sc.names.lookup y.1=some .local
 MT:∀y∈sc.names,y.2 = .free->X.env.kindOf y.1=some .cell
 abn:∀x∈F,sc.names.lookup x=some .free
 eqs:fr.map (λj=>X.N[j]?)=F.map some
theorem c9.len (S:c9 X F T fr sc):fr.length=F.length:=by
 have:=congrArg List.length S.eqs
 simpa using this
theorem c9.tQ (S:c9 X F T fr sc)(i:Nat)(x:Str)(h:F[i]? = some x):∃j,fr[i]? = some j/\X.N[j]? = some x:=by
 have e:=congrArg (λl=>l[i]?) S.eqs
 simp only[zar,h,zcf] at e;cases q:fr[i]? with
 |none=>rw[q] at e;cases e
 |some j=>rw[q] at e;exact⟨j,rfl,zaw e⟩
noncomputable def k9 (fr:List Nat)(T:List Str)(σ:St):St:=(fr.map λj=>(σ[j]?).join)++T.map λ_=>none
def Hr (wi:TI)(fr:List Nat)(T:List Str)(g:TG)(ti:TT)(te:TE):TE:=λσ H Q=>wi σ H λJ H1=>∀D,H1 D=none ->
  ∃W:Nat->Nat->St->List V->Hp->Prop,(∃m,W 0 m (k9 fr T σ) [] (bf H1 D (.bD [])))/\∀i m eV xs H',W i m eV xs H'->H' D=some (.bD xs) /\
    ((J.stop i H'/\Q (.ref D) H')\/(J.go i H'/\∃N:St->List V->Hp->Prop,(∀BD ys H2,N BD ys H2->∃m',m' < m/\W (i+1) m' BD ys H2)/\∀x H2,J.yld i H' x H2->g x eV H2 λBD H3=>ti BD H3 λb H4 =>
      if b=true then te BD H4 λv H5=>H5 D=some (.bD xs)/\xs.length<sizeLine/\N BD (xs++[v]) (bf H5 D (.bD (xs++[v]))) else N BD xs H4))
theorem abo (S:c9 X F T fr sc)(I:aH X ah σ H s)
  (WU:∀b∈fp,qI X ah H b) (hfo:∀b∈fp,b<s.heap.objs.size):(pK X (F++T) sc s.heap.objs.size fp s H xe).Ok:=by
 have cl:∀x c,(pJ X.env sc.names []).lookup x=some c->X.env.cells.lookup x=some c:=λx c e=>(mR e).resolve_left (by simp)
 refine⟨I.ok.tK,?_,I.ok.tH,I.ok.WH,zaf _,λx y c h1 h2=>I.ok.inj x y c (cl _ _ h1) (cl _ _ h2),λx hx=>?_,λ_ _ h=>?_,I.ok.hd,I.ok.frames,.inl rfl,λb hb=>⟨zao (hfo b hb),λx c e=>(WU b hb).2.2.2.2.1 x c (cl _ _ e)⟩,I.bs,zah I.ok.RJ I.sz,λb o e hb=>?_,λb hb=>?_,I.dc,I.G1⟩
 ·show (relabel sc X.env).kind=_
  exact S.kind
 ·have RO:∃k,(relabel sc X.env).names.lookup x=some k/\(k = .cell\/k = .free):=by
   rcases hx with h|h
   ·exact⟨_,h,.inl rfl⟩
   ·exact⟨_,h,.inr rfl⟩
  obtain⟨k,hk,hkk⟩:=RO;obtain⟨k',h1,h2⟩:=kZ (env:=X.env) hk
  have hf:k' = .free:=by
   rcases h2 with h2|h2
   ·rcases hkk with z|z
    ·exact absurd (by rw[h2,z]) (S.MS _ (zbf h1))
    ·rw[h2,z]
   ·exact h2.1
  rw[hf] at h1;have hm:=zbf h1;refine t_ (.inl ⟨hm,?_⟩)
  exact I.ok.has x (.inl (S.MT _ hm rfl))
 ·exact absurd h (by show ¬ (false=true);decide)
 ·rcases (WU b hb).2.2.2.1 with z|z
  ·exact I.ok.jA b o e z
  ·exact absurd (zap (zaj (I.ok.bs b o e).1) z) (zaY _)
 ·intro z
  rcases zam.mp (I.EM b z) with q|q
  ·exact (WU b hb).2.1 q
  ·exact (WU b hb).2.2.1 q
theorem MU (S:c9 X F T fr sc)(I:aH X ah σ H s)
  (WU:∀b∈fp,qI X ah H b) (hfo:∀b∈fp,b<s.heap.objs.size) (hn:h4.Ns s.heap.objs.size m) (k:∀b o,s.heap.get? b=some o->h4.get? b=some o):
  aH (pK X (F++T) sc s.heap.objs.size fp s H xe) [] (k9 fr T σ) H {s with heap:=h4,toks:=tk}:=by
 have cl:∀x c,(pJ X.env sc.names []).lookup x=some c->X.env.cells.lookup x=some c:=λx c e=>(mR e).resolve_left (by simp)
 refine⟨abo S I WU hfo,rfl,I.iX,Un.eU k,⟨m,hn,λi x v h1 h2 h3=>?_⟩,λx c e=>?_,I.bZ.fresh (zaf _),λx c e=>I.lZ x c (cl _ _ e),λp hp=>absurd (show p∈([]:List (Addr×Obj)) from hp) (by simp),I.bZ.eU k,?_⟩
 ·have hi:i<fr.length:=by
   unfold k9 at h2;by_cases hi:i<fr.length
   ·exact hi
   ·rw[zau (by simpa using hi),zar] at h2
    cases q:T[i - (fr.map λj=>(σ[j]?).join).length]? with
    |none=>rw[q] at h2;cases h2
    |some y=>rw[q] at h2;cases h2
  have hF:F[i]? = some x:=by
   have h1:(F++T)[i]? = some x:=h1
   rw[zal (by rw[<-S.len];exact hi)] at h1
   exact h1
  obtain⟨j,hj,hx⟩:=S.tQ i x hF;have hv:σ[j]? = some (some v):=by
   unfold k9 at h2;rw[zal (by simpa using hi),zar,hj] at h2
   have h2:some (σ[j]?).join=some (some v):=h2
   have h2:=zaw h2;cases q:σ[j]? with
   |none=>rw[q] at h2;cases h2
   |some y=>rw[q] at h2;have h2:y=some v:=h2;rw[h2]
  have am2:x∈F:=zaZ hF
  have ye:=S.abn x am2;have BR:X.env.kindOf x=some .cell:=S.MT _ (zbf ye) rfl
  obtain⟨m0,_,hl⟩:=I.BL;obtain⟨u,ru,lk⟩:=hl j x v hx hv (.inr (.inl BR))
  refine⟨u,ru,.inr ⟨k8 (env:=X.env) ye,?_⟩⟩
  rcases lk with⟨z,_⟩|⟨_,c,hc,hic⟩
  ·rw[BR] at z;cases z
  ·obtain⟨c',Sa⟩:=t_ (env:=X.env) (x:=x) (l:=sc.names) (cs:=[]) (.inl ⟨zbf ye,c,hc⟩)
   have e:c'=c:=by have:=cl _ _ Sa;rw[hc] at this;exact (zaw this).symm
   subst e;obtain⟨o,ho,hd⟩:=hic;exact⟨c',Sa,o,k _ _ ho,hd⟩
 ·obtain⟨v,o,ho,hd⟩:=I.cell x c (cl _ _ e)
  exact⟨v,o,k _ _ ho,hd⟩
 ·show (k9 fr T σ).length=(F++T).length
  unfold k9;rw[zan,zan,zad,zad,S.len]
theorem B9 (S:c9 X F T fr sc)(hc:X.d9=true)(hi:PI X target dS wi)
  (hg:∀C fp s H xe,PG (pK X (F++T) sc C fp s H xe) target g) (MV:∀C fp s H xe,Fc (pK X (F++T) sc C fp s H xe) qL ti) (he:∀C fp s H xe,PE (pK X (F++T) sc C fp s H xe) yz te)
  (hs:∀x,foldedSetIterable dS X.env x=pure x) {ah:List (Addr×Obj)} {s:Shared} {σ:St} {H:Hp} {Q:VK} {use:Option (Value->Sem Unit)} {QQ:Value->Shared->Prop} (I:aH X ah σ H s) (h:Hr wi fr T g ti te σ H Q)
  (fP:∀(D C:Addr) (fp:List Addr) (s3 s7:Shared) (H3 H6:Hp) (xe:Value->Shared->Prop) (Mf:St),aH X ah σ H3 s3->(∀b∈fp,qI X ah H3 b)->s3.heap.objs.size=C->aH (pK X (F++T) sc C fp s3 H3 xe) [] Mf H6 s7->Q (.ref D) H6->compPost (model X.prog X.w) X.A X.xe use QQ (.ref D) C (.ok .next) s7):
  wpAny (model X.prog X.w) X.A (comprehension (.ListComp yz [⟨target,dS,qL,0⟩] sc pos) sc X.env gA (newList []) false (eval dS X.env) use) QQ X.xe s:=by
 refine wpAny_comprehension_free rfl hs (Fb λp hp hf=>?_) S.kind S.locals ?_
 ·exact I.ok.has p.1 (.inl (S.MT p hp hf))
 refine cP (hi ah s σ H _ I h) λv s1 h1=>cP h1 λitv s2 h2=>?_
 obtain⟨it,fp,tn,J,H2,e,I2,T2,st2,f2,hD⟩:=h2;subst e;have hfo:∀b∈fp,b<s2.heap.objs.size:=λb hb=>by
  obtain⟨o,e,_⟩:=T2.j8 _ _ st2 b hb;exact zaj e
 -- yc new list
 refine zaB ?_
 have hDn:H2 s2.heap.objs.size=none:=I2.bZ.fresh (zaf _)
 obtain⟨W,⟨m0,w0⟩,Me⟩:=hD s2.heap.objs.size hDn
 have I3:aH X ah σ (bf H2 s2.heap.objs.size (.bD [])) { s2 with heap:=s2.heap.push { cls:=.type "list",dict:=none,data:=.seq ([]:List Value).toArray} }:=
  I2.iJ (t':=s2.toks) (λb u e=>zab _ e) (zaf _) ⟨zbM _,[],0,.nil,zak _ rfl⟩
 generalize hs3:({ s2 with heap:=s2.heap.push { cls:=.type "list",dict:=none,data:=.seq ([]:List Value).toArray} }:Shared)=s3 at I3
 have am4:s3.heap.objs.size=s2.heap.objs.size+1:=by rw[<-hs3];exact zbp _ _
 have neD:∀b∈fp,b≠s2.heap.objs.size:=λb hb=>zao (hfo b hb)
 have f3:∀b∈fp,qI X ah (bf H2 s2.heap.objs.size (.bD [])) b:=λb hb=>⟨by rw[av (neD b hb)];exact (f2 b hb).1,(f2 b hb).2⟩
 have am5:∀b∈fp,b<s3.heap.objs.size:=λb hb=>by rw[am4];exact zbD (hfo b hb)
 have st3:tn 0 s3.heap:=T2.keep _ _ _ st2 λb hb o e=>by rw[<-hs3];exact zab _ e
 generalize hDD:s2.heap.objs.size=D at *
 -- yc frame
 refine wpAny_newFunctionEnv S.MS (by intro y hy;simp at hy) (λh4 hn4 am6=>?_) S.kind
 have old:∀b o,s3.heap.get? b=some o->h4.get? b=some o:=λb o e=>am6.extBut b o (zao (zaj e)) (zab _ e)
 generalize Tp:s3.heap.objs.size=C at *
 let R:Result->Shared->Prop:=compPost (model X.prog X.w) X.A X.xe use QQ (.ref D) C
 let xe:Value->Shared->Prop:=notedBy (model X.prog X.w) X.A (compEnvC sc (pJ X.env sc.names []) C X.env) λe s'=>R (.error e) s'
 have I4:aH (pK X (F++T) sc C fp s3 (bf H2 D (.bD [])) xe) [] (k9 fr T σ) (bf H2 D (.bD [])) {s3 with heap:=h4,toks:=s3.toks+([]:List (Str×Value)).length}:=by
  subst Tp;exact MU S I3 f3 am5 hn4 old
 have st4:tn 0 h4:=T2.keep _ _ _ st3 λb hb o e=>old b o e
 have ER:∀{H':Hp},(∀b∈fp,H' b=none)->∀b∈fp,qI (pK X (F++T) sc C fp s3 (bf H2 D (.bD [])) xe) [] H' b:=λ{H'} hn b hb=>by
  refine⟨hn b hb,?_,?_,.inl hb,λx c e=>?_,λp hp=>absurd (show p∈([]:List (Addr×Obj)) from hp) (by simp)⟩
  ·exact (I4.ok.exf b hb).1
  ·exact I4.ok.EL b hb
  ·exact (I4.ok.exf b hb).2 x c e
 have R9:∀s5:Shared,s5 = {s3 with heap:=h4,toks:=s3.toks+([]:List (Str×Value)).length} ->
   codeAny (model X.prog X.w) X.A (.compLoop (.ListComp yz [⟨target,dS,qL,0⟩] sc pos) 0 (.ref it) (.ref D) (compEnvC sc (pJ X.env sc.names []) C X.env)) R s5:=by
  rintro s5 rfl
  refine Aq (λn s'=>∃i eV xs H',aH (pK X (F++T) sc C fp s3 (bf H2 D (.bD [])) xe) [] eV H' s'/\tn i s'.heap/\(∀b∈fp,H' b=none)/\W i n eV xs H') ?_ m0 ⟨0,_,[],_,I4,st4,λb hb=>(f3 b hb).1,w0⟩
  rintro n s6 ⟨i,Mf,xs,H6,I6,st6,fr6,w6⟩
  obtain⟨hD6,tt⟩:=Me i n Mf xs H6 w6;rcases tt with⟨stop,qn⟩|⟨go,NN,hNN,BN⟩
  ·refine cP (T2.done (pK X (F++T) sc C fp s3 (bf H2 D (.bD [])) xe) rfl rfl rfl hc i [] s6 Mf H6 xe I6 (ER fr6) st6 stop) λr s7 bU=>?_
   obtain⟨hr,I7⟩:=bU;subst hr;exact fP D C fp s3 s7 _ H6 xe Mf I3 f3 Tp I7 qn
  ·refine cP (T2.item (pK X (F++T) sc C fp s3 (bf H2 D (.bD [])) xe) rfl rfl rfl hc i [] s6 Mf H6 xe I6 (ER fr6) st6 go) λr s7 dh=>?_
   obtain⟨u,hr,h7⟩:=dh;subst hr;refine cP h7 λ_ s8 eZ=>?_
   obtain⟨x,H8,I8,r8,y8,st8,fr8⟩:=eZ;have I8':=I8.Mc (ER fr8) (T2.j8 _ _ st8)
   have ahR:∀{s9:Shared} {Tq:St} {H9:Hp},aH (pK X (F++T) sc C fp s3 (bf H2 D (.bD [])) xe) ([]++tO fp s8.heap) Tq H9 s9->aH (pK X (F++T) sc C fp s3 (bf H2 D (.bD [])) xe) [] Tq H9 s9/\tn (i+1) s9.heap/\∀b∈fp,H9 b=none:=λ{s9 Tq H9} I9=>by
    refine⟨I9.pB,T2.keep _ _ _ st8 λb hb o e=>(I9.Es (b,o) (zaP _ (zaP _ (kW hb e)))).1,λb hb=>?_⟩
    obtain⟨o,e,d⟩:=T2.j8 _ _ st8 b hb;exact (I9.Es (b,o) (zaP _ (zaP _ (kW hb e)))).2.1
   refine cP (hg C fp s3 _ xe _ s8 Mf H8 x u _ I8' r8 (BN x H8 y8)) λ_ s9 mS=>?_
   obtain⟨Tq,H9,I9,q9⟩:=mS;refine cP (MV C fp s3 _ xe _ s9 Tq H9 _ I9 q9) λok s10 jg=>?_
   obtain⟨H10,I10,q10⟩:=jg;cases ok with
   |false =>
    rw[if_neg zai] at q10 ⊢
    obtain⟨m',hm,w'⟩:=hNN _ _ _ q10;obtain⟨b1,b2,b3⟩:=ahR I10;exact⟨m',hm,i+1,Tq,xs,H10,b1,b2,b3,w'⟩
   |true =>
    rw[if_pos rfl] at q10 ⊢
    refine cP (he C fp s3 _ xe _ s10 Tq H10 _ I10 q10) λiu s11 ki=>?_
    obtain⟨Tt,H11,I11,r11,ana,hz,q11⟩:=ki;obtain⟨m',hm,w'⟩:=hNN _ _ _ q11;refine cP (yv _ s11 Tq H11 (.ref D) [Tt] (.ref D) [iu] (λ_ H'=>H'=bf H11 D (.bD (xs++[Tt]))) I11 rfl (.cons r11 .nil) ⟨D,xs,Tt,rfl,rfl,ana,hz,rfl⟩) λ_ s12 gD=>?_
    obtain⟨_,H12,I12,_,e12⟩:=gD;subst e12;obtain⟨b1,b2,b3⟩:=ahR I12;exact⟨m',hm,i+1,Tq,_,_,b1,b2,b3,w'⟩
 have st5:codeAny (model X.prog X.w) X.A (.compStart (.ListComp yz [⟨target,dS,qL,0⟩] sc pos) 0 (.ref it) (.ref D) (compEnvC sc (pJ X.env sc.names []) C X.env)) R {s3 with heap:=h4,toks:=s3.toks+([]:List (Str×Value)).length}:=
  codeAny_compStart_list (R9 _ rfl) (T2.self _ 0 _ _ _ st4 (R9 _ rfl))
 subst hs3;exact st5
theorem Hs (S:c9 X F T fr sc)(hc:X.d9=true)(hi:PI X target dS wi)
  (hg:∀C fp s H xe,PG (pK X (F++T) sc C fp s H xe) target g) (MV:∀C fp s H xe,Fc (pK X (F++T) sc C fp s H xe) qL ti) (he:∀C fp s H xe,PE (pK X (F++T) sc C fp s H xe) yz te)
  (hs:∀x,foldedSetIterable dS X.env x=pure x:=by intro _;rfl):PE X (.ListComp yz [⟨target,dS,qL,0⟩] sc pos) (Hr wi fr T g ti te):=by
 intro ah s σ H Q I h;rw[eval_ListComp];refine B9 S hc hi hg MV he hs I h λD C fp s3 s7 H3 H6 xe Mf I3 f3 Tp I7 qn=>?_
 obtain⟨m7,hn7,_⟩:=I7.BL;refine⟨m7,hn7,λh8 MW=>⟨.ref D,H6,?_,rfl,qn⟩⟩
 have hCn:H6 C=none:=I7.free
 have un8:Un (sP X.dc) fp (H3) H6 s3.heap h8:=by
  have u7:Un (sP X.dc) fp (H3) H6 s3.heap s7.heap:=I7.base
  have nC:∀b o,s3.heap.get? b=some o->b≠C:=λb o e=>by rw[<-Tp];exact zao (zaj e)
  refine⟨λb o e n hb hx=>(MW.2 b (nC b o e)).trans (u7.keep b o e n hb hx),λb o e n hb hx=>?_,u7.free,λb o e hx=>?_,u7.xh,u7.tG,u7.xj⟩
  ·obtain⟨sl,q⟩:=u7.slot b o e n hb hx
   exact⟨sl,(MW.2 b (nC b o e)).trans q⟩
  ·obtain⟨o',q⟩:=u7.there b o e hx
   exact⟨o',(MW.2 b (nC b o e)).trans q⟩
 have ane:nV X.prog X.w H6 h8:=λb ob e=>by
  refine (I7.bZ b ob e).sD (λc w' hc q=>(MW.2 c ?_).trans q) (λ_ q=>q) λ_ _ q=>q
  rintro rfl
  rcases hc with rfl|hc
  ·rw[hCn] at e;cases e
  ·rw[hCn] at hc;cases hc
 refine I3.G3 (s':={s7 with heap:=h8}) (H':=H6) (ch:=fp) I7.os un8 ane I7.iX λb hb=>?_
 obtain⟨_,q1,_,q2,q3,q4⟩:=f3 b hb;exact⟨q2,q1,q3,q4⟩
noncomputable def anf:V->Option Int->Option Int->Hp->VK->Prop:=λx lo hi H Q=>∃z,x = .str z/\z.length<=sizeLine/\Q (.str (Txt.slice z lo hi)) H
theorem abp:SlR X anf:=by
 intro ah s σ H x v vl vu lo hi sl Q I rx hs pl pu h;obtain⟨z,rfl,hz,q⟩:=h;obtain⟨t,rfl⟩:=(show ∃t,v=Value.str z t from rx)
 refine⟨"str",_,F.slot_str_getitem.lookup,typeIs_str _ _ _,?_⟩
 have key:∀(l u:Option (Int×Tok)),s.heap.IsSlice sl l u none->l.map (·.1)=lo->u.map (·.1)=hi->wpAny (model X.prog X.w) X.A (getItem (.str z t) (.ref sl)) (EP X ah σ Q) X.xe s:=by
  intro l u hsl e1 e2;subst e1 e2;exact wpAny_getItem_str_slice (st:=none) hsl rfl (post_val_or_str ⟨zah (Txt.slice_le z _ _) hz,λt' k=>⟨.str (Txt.slice z (l.map (·.1)) (u.map (·.1))),H,I.o9 k,⟨t',rfl⟩,q⟩⟩)
 cases pl with
 |none=>cases pu with
  |none=>exact key none none hs rfl rfl
  |int j t'=>exact key none (some (j,t')) hs rfl rfl
 |int i ti=>cases pu with
  |none=>exact key (some (i,ti)) none hs rfl rfl
  |int j t'=>exact key (some (i,ti)) (some (j,t')) hs rfl rfl
noncomputable def pL (z:Str)(n:Nat):Str:=⟨(List.replicate n z.cps).foldl (·++·) #[]⟩
def ahS:R2:=λx y H Q=>∃z n,x = .str z/\y = .int n/\0<=n/\n<1000000/\z.length * n.toNat<=1000000/\Q (.str (pL z n.toNat)) H
theorem MX (z:Str):pL z 1=z:=by
 obtain⟨c⟩:=z;simp[pL]
theorem xw (h:z.length=0)(n:Nat):pL z n=z:=by
 obtain⟨c⟩:=z;have e:c = #[]:=by simpa[Str.length] using h
 subst e;unfold pL;congr 1
 induction n with
 |zero=>rfl
 |succ n ih=>rw[zaD,zaT];simpa using ih
theorem Fd:kU X (binaryOp .Mult) ahS:=by
 intro ah s σ H x y v u Q I rx ry h;obtain⟨z,n,rfl,rfl,h0,h1,h2,q⟩:=h;obtain⟨t,rfl⟩:=(show ∃t,v=Value.str z t from rx)
 obtain⟨t',rfl⟩:=(show ∃t,u=Value.int n t from ry)
 have hz:z.length * n.toNat<=sizeLine:=zah h2 (by decide)
 refine P.mul_str (by
  have e1:¬ n < -(2 ^ 63:Int):=by omega
  have e2:¬ n ≥ 2 ^ 63:=by omega
  rw[decide_eq_false e1,decide_eq_false e2];rfl) (λhn _ hc=>?_) (λ_ _=>?_) ?_
 ·have abq:0<n:=by omega
  have e3:(z.length:Int) * n<=1000000:=by
   have:((z.length * n.toNat:Nat):Int)<=((1000000:Nat):Int):=Int.ofNat_le.mpr h2
   rw[Int.natCast_mul,zcY h0] at this;exact this
  have e4:(z.length:Int)<=(2 ^ 63 - 1) / n:=by
   rw[Int.le_ediv_iff_mul_le abq];omega
  omega
 ·unfold Builtin.Str.tooLong
  exact decide_eq_false (by omega)
 ·by_cases hn:n<1
  ·rw[if_pos hn]
   have e:n=0:=by omega
   subst e;exact⟨by decide,⟨.str _,H,I.o9 _,⟨_,rfl⟩,q⟩⟩
  ·rw[if_neg hn]
   by_cases hc:(n == 1 || z.length == 0)=true
   ·rw[if_pos hc]
    have e:pL z n.toNat=z:=by
     rcases zeF _ _ ▸ hc with e|e
     ·have e:n=1:=by simpa using e
      subst e;exact MX z
     ·exact xw (by simpa using e) _
    rw[e] at q;exact⟨.str z,H,I,⟨t,rfl⟩,q⟩
   ·rw[if_neg hc]
    refine⟨?_,⟨.str _,H,I.o9 _,⟨_,rfl⟩,q⟩⟩
    have:∀(k:Nat) (a:Array Nat),((List.replicate k z.cps).foldl (·++·) a).size=a.size+k * z.cps.size:=by
     intro k;induction k with
     |zero=>intro a;simp
     |succ k ih=>intro a;rw[zaD,zaT,ih,Array.size_append,Nat.succ_mul];omega
    show ((List.replicate n.toNat z.cps).foldl (·++·) #[]).size<=sizeLine
    rw[this];have e5:z.cps.size=z.length:=rfl
    rw[e5];simp only[zaq,zbm,zde];rw[Nat.mul_comm];exact hz
noncomputable def ang (K:PySem.W.Frag):List V->Hp->VK->Prop:=λxs H Q=>∃x c u t b,xs=[x,c]/\(c = .ty u\/False)/\pC K H x t/\PySem.W.kitOne K t (.type u)=some b/\Q (.bl b) H
theorem MY:ig X (.builtin "isinstance") (ang X.K):=by
 intro ah s σ H xs us Q I r h;obtain⟨x,c,u,t,b,rfl,hc,ty,e,q⟩:=h;rcases hc with rfl|hc
 ·obtain⟨v1,v2,rfl,r1,r2⟩:=r.two
  cases (show v2=Value.type u from r2)
  exact JI I r1 ty e λtk=>⟨.bl b,H,I.o9 tk,rfl,q⟩
 ·exact hc.elim
noncomputable def sS:List Value:=[.type "ValueError",.type "Exception",.type "BaseException",.type "object"]
theorem Ht:sS.contains (.type "ValueError")=true:=by decide +kernel
noncomputable def k_ (C:Addr)(od:Option Addr)(t:Addr):Obj:={cls:=.ref C,dict:=od,data:=.fields #[.ref t,.none,.none,.none,.bool false,.none]}
def EO (a C:Addr)(od:Option Addr):HO:=.ext λh=>∃t:Addr,h.get? a=some (k_ C od t)
noncomputable def ED (d:Addr)(fs:List (Str×V)):HO:=.ext λh=>∃mA,h.Ns1 d mA/\(∀f,jf (fs.lookup f) (mA f))/\PySem.Within mA (fs.map (·.1))
theorem MZ (e:h.get? a=some (k_ C od t)):bP P w H h a (EO a C od):=
 ⟨⟨t,e⟩,⟨_,e⟩,λh1 h2 bU k=>by obtain⟨t,q⟩:=bU;exact⟨t,k _ q⟩⟩
theorem M0 (e:h.Ns1 d mA)(r:∀f,jf (fs.lookup f) (mA f))(wi:PySem.Within mA (fs.map (·.1))):bP P w H h d (ED d fs):=
 ⟨⟨mA,e,r,wi⟩,(let ⟨o,_,_,e',_⟩:=e;⟨o,e'⟩),λh1 h2 dh k=>by obtain⟨mA,q,r,wi⟩:=dh;exact⟨mA,q.at λo z=>k o z,r,wi⟩⟩
section
variable {prog:Program}{w:World}{A:Around}{E:Value->Shared->Prop}{h:Heap}{g:Array GenState}{d:Drawn}{t:Nat}{os:OsState}{K:PySem.W.Frag}
variable {nm q:Str}{C N:Addr}{bs bm:List Value}{xx:Bool}{sn:List Str}{sub:List Value}{ab:Bool}{ua:Option Bool}{dd:Option Addr}{k0 k1 k2 k3 k5:Option Value}
theorem sG (X:K.In h)(T:OwnTail h sS bm){dg:List Value} 
  (hC:h.get? C=some (excClassObj nm q C N bs bm xx sn sub ab ua dd k0 k1 k2 k3 k5 "ValueError.__new__"))
  (hi:PySem.W.findIn K (.ref C) "__init__"=some (some (.ref fI))) (hf:PySem.W.typeIn K (.ref fI)=some (.type "function"))
  (hq:wpAny (model prog w) A (call (.ref fI) (.ref (h.objs.size+1)::dg)) (λr s'=>r = .none/\Q (.done (.ret (.ref (h.objs.size+1)))) s') E
   ⟨(h.push { cls:=.type "tuple",data:=.seq dg.toArray}).push (k_ C none h.objs.size),g,d,t,os⟩) (hrest:dg.length<=sizeLine):
  wpAny (model prog w) A (Builtin.«type.__call__» ⟨.ref C::dg,[]⟩) Q E ⟨h,g,d,t,os⟩:=by
 have F:ExcBaseFacts "ValueError" "ValueError.__new__" "ValueError.__init__" sS:=F.excBase_ValueError
 repeat (first|with_reducible refine zbT hC ?_|with_reducible refine wpAny_madeBy_exc hC ?_|wp_step)
 refine codeAny_call_builtin_code (Code.quiet_builtin _ F.quiet) (wpAny_check_new_subU F Ht T hC ?_)
 refine codeAny_exc_new_subU F Ht F T hC ?_ hrest
 show wpAny _ _ _ _ _ _
 have up:∀b o,h.get? b=some o->((h.push { cls:=.type "tuple",data:=.seq dg.toArray}).push {cls:=.ref C,data:=.fields #[.ref h.objs.size,.none,.none,.none,.bool false,.none]}).get? b=some o:=
  λb o e=>zab _ (zab _ e)
 have ahT:=up _ _ hC;have ahU:K.In _:=X.keeps up
 have anh:((h.push { cls:=.type "tuple",data:=.seq dg.toArray}).push
   {cls:=.ref C,data:=.fields #[.ref h.objs.size,.none,.none,.none,.bool false,.none]}).get? (h.objs.size+1)=some
   {cls:=.ref C,data:=.fields #[.ref h.objs.size,.none,.none,.none,.bool false,.none]}:=by heap_get
 have hcC:(Value.ref C::bm).contains (.ref C)=true:=by simp
 unfold isInstance;repeat (first|with_reducible refine zbT anh ?_ | (with_reducible refine zcZ ahT ?_;rw[hcC])|wp_step)
 show wpAny _ _ (typeLookup (.ref C) _) _ _ _
 refine (zdx ahU hi).here ?_
 refine zaz (zaa ?_)
 unfold bindSpecial;refine zaa ((PySem.W.looks_typeIn ahU hf).here ?_)
 rw[if_pos (by decide)]
 refine zac (zaa (zaO hq (λr s' hr=>?_) λ_ _ x=>x))
 obtain⟨rfl,hQ⟩:=hr;wp_walk
 exact hQ
theorem Fe (X:K.In h)(T:OwnTail h sS bm){dg:List Value} 
  (hC:h.get? C=some (excClassObj nm q C N bs bm xx sn sub ab ua dd k0 k1 k2 k3 k5 "ValueError.__new__"))
  (hi:PySem.W.findIn K (.ref C) "__init__"=some (some (.ref fI))) (hf:PySem.W.typeIn K (.ref fI)=some (.type "function"))
  (hq:wpAny (model prog w) (A.under (.builtin "type.__call__" ⟨.ref C::dg,[]⟩)) (call (.ref fI) (.ref (h.objs.size+1)::dg)) (λr s'=>r = .none/\Q (.ref (h.objs.size+1)) s') E
   ⟨(h.push { cls:=.type "tuple",data:=.seq dg.toArray}).push (k_ C none h.objs.size),g,d,t,os⟩) (hrest:dg.length<=sizeLine):
  wpAny (model prog w) A (call (.ref C) dg) Q E ⟨h,g,d,t,os⟩:=by
 have f1:=tc_lookup;have f2:=tc_bind (.ref C)
 have hT:(⟨h,g,d,t,os⟩:Shared).TypeIs (.ref C) "type" := ⟨_,hC,rfl⟩
 refine zdj (zeG ?_)
 show wpAny _ _ (callAny (.ref C) _) _ _ _
 repeat (any_goals (first|assumption|with_reducible refine zbT hC ?_|wp_step))
 refine⟨rfl,?_⟩
 exact codeAny_call_builtin_at (Code.quiet_builtin _ (by decide +kernel)) entry_typeCall (wpAny_check_type_call_sub hC (sG (hrest:=hrest) X T hC hi hf hq))
end
structure sU (K:PySem.W.Frag) (C f:Addr) (bm:List Value):Prop where
 j8:∃nm q N bs sn sub ab ua dd k0 k1 k2 k3 k5,K.lookup C=some (excClassObj nm q C N bs bm true sn sub ab ua dd k0 k1 k2 k3 k5 "ValueError.__new__")
 tail:PySem.W.tailIn K sS bm=true
 init:PySem.W.findIn K (.ref C) "__init__"=some (some (.ref f))
 fn:PySem.W.typeIn K (.ref f)=some (.type "function")
 kp:PySem.W.keepIn K (.ref C)=true
 sa:PySem.W.findIn K (.ref C) "__setattr__"=some (some (.builtin "object.__setattr__"))
 ga:PySem.W.findIn K (.ref C) "__getattribute__"=some (some (.builtin "BaseException.__getattribute__"))
 gg:PySem.W.findIn K (.ref C) "__getattr__"=some none
 kc:PySem.W.findIn K (.ref C) "__class__"=some (some (.builtin "object.__class__"))
 nb:∃B,bm = .ref B::sS
theorem B_ (h:H a=some o):bf H a o=H:=by
 funext b
 unfold bf;split
 ·rename_i e;rw[e,h]
 ·rfl
section
variable {X:Cx}{CX:BV}{k:Nat}{f C:Addr}{bm:List Value}{fd:FuncData}{ps:List Str}{sp:Sp}{nF:List V}{ds:List Value}{E:XK}{x m:Str}{p pos eX:Pos}{e o:Expr}{es:List Expr}{ta:TE}{t:TA}
def ani (C:Addr)(sp:Sp)(nF:List V)(E:XK)(t:TA):TE:=λσ H Q=>t σ H λvs H1=>vs.length<=1000/\∀x,H1 x=none ->
 sp (.ref x::(vs++nF)) (bf H1 x (EO x C none)) (λv H2=>v = .bq/\Q (.ref x) H2) E
theorem Tu (M:sU X.K C f bm)(F:aP X.prog X.w X.K X.mg X.base CX k f fd ps sp)(hr:gU (k+1) X.A)(hb:eW X.K fd ps ds)(hd:bE nF ds)
  (hx:gC CX X E) (I:aH X ah σ H s) (r:bE vs us) (hz:vs.length<=1000)
  (h:∀x,H x=none->sp (.ref x::(vs++nF)) (bf H x (EO x C none)) (λv H2=>v = .bq/\Q (.ref x) H2) E):
  wpAny (model X.prog X.w) X.A (call (.ref C) us) (EP X ah σ Q) X.xe s:=by
 obtain⟨nm,q,N,bs,sn,sub,ab,ua,dd,k0,k1,k2,k3,k5,lk⟩:=M.j8;have KX:=I.kT;have hq:=h (s.heap.objs.size+1) (I.bZ.fresh (zbc _))
 have hsz:us.length<=sizeLine:=by
  rw[<-r.length];exact zah hz (by decide)
 have e2:((s.heap.push { cls:=.type "tuple",data:=.seq us.toArray}).push (k_ C none s.heap.objs.size)).get? (s.heap.objs.size+1)=some (k_ C none s.heap.objs.size):=by
  have:=zak (s.heap.push { cls:=.type "tuple",data:=.seq us.toArray}) (o:=k_ C none s.heap.objs.size) rfl
  rwa[zbp] at this
 have up:∀b o,s.heap.get? b=some o->((s.heap.push { cls:=.type "tuple",data:=.seq us.toArray}).push (k_ C none s.heap.objs.size)).get? b=some o:=λb o e=>zab _ (zab _ e)
 have I2:aH X ah σ (bf H (s.heap.objs.size+1) (EO (s.heap.objs.size+1) C none)) { s with heap:=(s.heap.push { cls:=.type "tuple",data:=.seq us.toArray}).push (k_ C none s.heap.objs.size)}:=
  I.iJ (t':=s.toks) up (zbc _) (MZ e2)
 have r2:bE (V.ref (s.heap.objs.size+1)::(vs++nF)) (Value.ref (s.heap.objs.size+1)::(us++ds)):=.cons rfl (r.je hd)
 have hl:(Value.ref (s.heap.objs.size+1)::us++ds).length=ps.length:=by
  have e:=r2.length;rw[F.len _ _ _ _ hq] at e;exact e.symm
 have fP:wpAny (model X.prog X.w) (X.A.under (.builtin "type.__call__" ⟨.ref C::us,[]⟩)) (call (.ref f) (.ref (s.heap.objs.size+1)::us)) (λr s'=>r = .none/\EP X ah σ Q (.ref (s.heap.objs.size+1)) s') X.xe
   { s with heap:=(s.heap.push { cls:=.type "tuple",data:=.seq us.toArray}).push (k_ C none s.heap.objs.size)}:=by
  refine zdj (zcp (F.kY _ X.dc _ _ ⟨Value.ref (s.heap.objs.size+1)::us,[]⟩ (Value.ref (s.heap.objs.size+1)::(us++ds)) _ _ E (hr.Mn C us [])
   (I2.BW.Mn C us []) (hb _ (Value.ref (s.heap.objs.size+1)::us) I2.kT hl) r2 hq) λr s' Ms=>?_)
  cases r with
  |error e=>exact hx ah σ _ _ e s' I2 Ms
  |ok fl =>
   cases fl with
   |ret u =>
    obtain⟨v,H',I3,rv,ev,q3⟩:=I2.after Ms;subst ev;exact⟨rv,⟨V.ref (s.heap.objs.size+1),H',I3,rfl,q3⟩⟩
   |next=>exact False.elim Ms
   |brk=>exact False.elim Ms
   |cont=>exact False.elim Ms
 exact Fe (g:=s.gens) (d:=s.drawn) (t:=s.toks) (os:=s.os) KX (zfw KX M.tail) (KX _ _ lk) M.init M.fn fP hsz
theorem abr (M:sU X.K C f bm)(F:aP X.prog X.w X.K X.mg X.base CX k f fd ps sp)(hr:gU (k+1) X.A)(hg:Gl X x)(hm:X.mg x=some (.ref C))(hb:eW X.K fd ps ds)(hd:bE nF ds)(hx:gC CX X E)
  (ha:PA X (e::es) t) (tU:(x == ("__debug__":Str))=false:=by decide) (he:starEach (e::es) X.env=(false,eval e X.env)::starEach es X.env:=by rfl) (hpl:(backTo pos (starEach es X.env)).any (·.1)=false:=by rfl):
  PE X (.Call (.Name x p) (e::es) [] pos) (ani C sp nF E t):=by
 intro ah s σ H Q I h;refine zcB (nE I hg hm ?_ tU)
 refine zdd (h₀:= X.base) I.ok.tK.kin M.kp (cP (ha pos ah s σ H _ I h) λus s1 ⟨vs,H1,I1,r,hz,q⟩=>⟨I1.kT,?_⟩) he hpl
 exact Tu M F hr hb hd hx I1 r hz q
structure WV (K:PySem.W.Frag) (B:Addr):Prop where
 sp:PySem.W.specialIn K (.ref B) "__getattribute__"=some (some (.builtin "type.__getattribute__"))
 rd:PySem.W.readsIn K B (.type "type")=true
 fc:PySem.W.findCls K (.ref B) (.type "type") "__init__"=some (.val (.builtin "ValueError.__init__"))
def abt (K:PySem.W.Frag)(t:TA):TE:=λσ H Q=>t σ H λvs H1=>∃a C f bm od y,vs=[.ref a,y]/\H1 a=some (EO a C od)/\sU K C f bm/\Q .bq H1
theorem M1 (M:sU X.K C f bm)(I:aH X ah σ H s)(hH:H a=some (EO a C od))(q:Q .bq H):
  wpAny (model X.prog X.w) X.A (call (.builtin "ValueError.__init__") [.ref a,u]) (EP X ah σ Q) X.xe s:=by
 obtain⟨nm,q',N,bs,sn,sub,ab,ua,dd,k0,k1,k2,k3,k5,lk⟩:=M.j8;have KX:=I.kT;have F:ExcBaseFacts "ValueError" "ValueError.__new__" "ValueError.__init__" sS:=F.excBase_ValueError
 obtain⟨⟨t0,ha⟩,_,_⟩:=(show bP X.prog X.w H s.heap a (EO a C od) from I.bZ a _ hH)
 have hC:=KX _ _ lk;have T:=zfw KX M.tail;obtain⟨h,g,d,tk,os⟩:=s;refine zdj (zdB F.init.plain F.initEntry (wpAny_check_init_subU F T hC ha rfl ?_))
 have Tv:h.get? a=some {cls:=.ref C,dict:=od,data:=.fields #[.ref t0,.none,.none,.none,.bool false,.none]}:=ha
 wp_walk
 have up:∀b o,h.get? b=some o->(h.push { cls:=.type "tuple",data:=.seq #[u]}).get? b=some o:=λb o e=>zab _ e
 have I1:aH X ah σ H ⟨h.push { cls:=.type "tuple",data:=.seq #[u]},g,d,tk,os⟩:=I.eU (t':=tk) up
 have e1:((h.push { cls:=.type "tuple",data:=.seq #[u]}).update a (Obj.mapFields λx=>x.setIfInBounds 0 (Value.ref h.objs.size))).get? a=some (k_ C od h.objs.size):=by
  rw[zaA _ (up _ _ Tv) rfl];rfl
 have I2:=I1.j6 (x:=a) (e:=a) (o:=EO a C od) (t':=tk) (h':=(h.push { cls:=.type "tuple",data:=.seq #[u]}).update a (Obj.mapFields λx=>x.setIfInBounds 0 (Value.ref h.objs.size)))
  (by rw[hH];exact True.intro) (.inl rfl) (λb z hb e=>(zaE _ _ (zbe hb)).trans e) ⟨_,e1⟩ (MZ e1)
 rw[B_ hH] at I2;exact⟨.bq,H,I2,rfl,q⟩
theorem M3 (EB:WV X.K B)(hg:Gl X x)(hm:X.mg x=some (.ref B))(ha:PA X [e,e2] t)(tU:(x == ("__debug__":Str))=false:=by decide)
  (om:starEach [e,e2] X.env=(false,eval e X.env)::starEach [e2] X.env:=by rfl) (hpl:(backTo pos (starEach [e2] X.env)).any (·.1)=false:=by rfl)
  (ht:eval (.Call (.Attribute (.Name x p) "__init__" eX) [e,e2] [] pos) X.env=(do
   let ov <-eval (.Name x p) X.env
   standAt eX.atName
   let (f,first) <-holding [ov] (getMethod ov "__init__" pl)
   callWith pos f first (backTo pos (starEach [e,e2] X.env)) (backToKw pos (keywordEach [] X.env))):=by rfl):
  PE X (.Call (.Attribute (.Name x p) "__init__" eX) [e,e2] [] pos) (abt X.K t):=by
 intro ah s σ H Q I h;refine zdt (pl:=pl) (nE I hg hm ?_ tU) ht
 refine PySem.W.method_cls I.kT EB.sp (PySem.W.cls_value I.kT EB.rd EB.fc rfl ?_)
 have I1:=I.o9 (s.toks+1)
 have hA:=ha pos ah {s with toks:=s.toks+1} σ H _ I1 h
 rw[om] at hA ⊢
 refine zcH (by show (false || (backTo pos (starEach [e2] X.env)).any (·.1))=false;rw[hpl]<;>rfl) (zdz ?_)
 refine cP hA λus s2 dh=>?_
 obtain⟨vs,H2,I2,r2,a,C',f',Hu,od,y,ev,hH,M,q⟩:=dh;subst ev;obtain⟨u1,u2,rfl,ru1,_⟩:=r2.two;cases (show u1=Value.ref a from ru1)
 exact M1 M I2 hH q
end
theorem abu (e:h.get? a=some (k_ C none t)):PySem.W.InstAt h a (k_ C none t) C none:=⟨e,rfl,rfl,True.intro⟩
theorem abv (e:h.get? a=some (k_ C (some d) t))(hd:h.get? d=some o):PySem.W.InstAt h a (k_ C (some d) t) C (some o):=⟨e,rfl,rfl,hd⟩
theorem Ff (self:Value):refuseLoop self "__setattr__" sS=pure ():=by
 with_unfolding_all rfl
theorem sU.cls {K:PySem.W.Frag}(M:sU K C f bm):∃cd,PySem.W.clsIn K C=some cd/\cd.mro = .ref C::bm/\cd.hasDict=true:=by
 obtain⟨nm,q',N,bs,sn,sub,ab,ua,dd,k0,k1,k2,k3,k5,lk⟩:=M.j8;refine⟨{name:=nm,bases:=bs,mro:=.ref C::bm,ns:=N,qualname:=q',hasDict:=true,slotNames:=sn,subclasses:=sub,abstract:=ab,collection:=ua,hasDel:=false},?_,rfl,rfl⟩
 unfold PySem.W.clsIn;rw[lk]
section
variable {prog:Program}{w:World}{A:Around}{E:Value->Shared->Prop}{s:Shared}{K:PySem.W.Frag}{x C f:Addr}{bm:List Value}{ox:Obj}{od:Option Obj}{name:Str}
theorem sU.has {T:String}(M:sU K C f bm)(hT:sS.contains (.type T)=true):PySem.W.mroIn K C (.type T)=some true:=by
 obtain⟨cd,hc,hm,_⟩:=M.cls;obtain⟨B,rfl⟩:=M.nb;unfold PySem.W.mroIn;rw[hc,zcr,hm,if_neg (by simp)]
 rw[zbK,zbK,hT,zdf,zdf]
theorem yC {v:Value}{b:Bool->Prop}{Q:Unit->Shared->Prop}(X:K.In s.heap)(I:PySem.W.InstAt s.heap x ox C od)(M:sU K C f bm)(hn:PySem.W.findIn K (.ref C) name=some none)
  (h:∀on tk,wpAny (model prog w) A.in1 (Builtin.ObjectAttr.storeInOwnDict (.ref x) (.ref C) (.str name tk) name v on) (λfP s'=>match fP with|.done (.ret _)=>Q () s' | _=>False) E {s with toks:=s.toks+1}):
  wpAny (model prog w) A (setAttr (.ref x) name v) Q E s:=by
 refine zfD X I M.sa ?_
 have SF:=PySem.F.store_object;obtain⟨cd,hc,hm,_⟩:=M.cls;obtain⟨B,hB⟩:=M.nb;have L0:=I.type (M:=model prog w)
 refine zdB SF.slot.plain SF.entry (@PySem.W.check_slot (model prog w) _ _ {s with toks:=s.toks+1} "object.__setattr__" "object" "__setattr__" (.ref x) [.str name s.toks,v] [] _ SF.kind SF.split
  (L0.andThen (PySem.W.looks_mroIn X (M.has (by decide +kernel)))) (SF.args (.ref x) (.str name s.toks) v) ?_)
 have Lm:PySem.W.Looks (model prog w) s.heap (mroOf (.ref C)) cd.mro:=(zcX X hc).andThen .now
 rw[PySem.W.osa_eq,refuse_eq];refine zaa (zaa (zbJ (s:={s with toks:=s.toks+1}) L0 (zaa (zbJ (s:={s with toks:=s.toks+1}) Lm ?_))))
 rw[hm,hB,refuseLoop_ref,refuseLoop_ref,Ff];refine zac (zaa (zbJ (s:={s with toks:=s.toks+1}) L0 (zaa (zbJ (s:={s with toks:=s.toks+1}) (zdx X hn) ?_))))
 refine zaa (zac ?_)
 refine zaO (h _ _) (λfP s' z=>?_) λ_ _ z=>z
 rcases fP with (_|_|_|_)|_<;>first|exact z|exact z.elim
end
section
variable {X:Cx}{ah:List (Addr×Obj)}{σ:St}{H:Hp}{s:Shared}{A:Around}{E:Value->Shared->Prop}{a C f d:Addr}{bm:List Value}{g:Str}{v y:V}{u:Value}{fs:List (Str×V)}
theorem M4 {od:Option Addr}(I:aH X ah σ H s)(h:H a=some (EO a C od)):∃t,s.heap.get? a=some (k_ C od t):=by
 obtain⟨⟨t,e⟩,_,_⟩:=(show bP X.prog X.w H s.heap a (EO a C od) from I.bZ a _ h)
 exact⟨t,e⟩
theorem ahV (I:aH X ah σ H s)(h:H d=some (ED d fs)):∃mA,s.heap.Ns1 d mA/\(∀f,jf (fs.lookup f) (mA f))/\PySem.Within mA (fs.map (·.1)):=by
 obtain⟨q,_,_⟩:=(show bP X.prog X.w H s.heap d (ED d fs) from I.bZ d _ h)
 exact q
end
theorem M5 (h:a≠b):bf (bf (bf H a o) b u) a w=bf (bf (bf H a o) a w) b u:=by
 funext c
 unfold bf;by_cases h1:c=a
 ·subst h1;rw[if_pos rfl,if_neg h,if_pos rfl]
 ·rw[if_neg h1,if_neg h1,if_neg h1]
theorem M6 (I:aH X ah σ H s)(M:sU X.K C f bm)(ha:H a=some (EO a C none))(hn:PySem.W.findIn X.K (.ref C) g=some none)(ry:bI y u)
  (h:∀d s',H d=none->aH X ah σ (bf (bf H d (ED d [(g,y)])) a (EO a C (some d))) s'->Q () s'):wpAny (model X.prog X.w) A (setAttr (.ref a) g u) Q E s:=by
 obtain⟨t,e⟩:=M4 I ha;obtain⟨cd,hc,_,xx⟩:=M.cls;refine yC (b:=λ_=>True) I.kT (abu e) M hn λon tk=>?_
 have abw:H s.heap.objs.size=none:=I.bZ.fresh (zaf _)
 have e':s.heap.get? a=some ⟨.ref C,none,.fields #[.ref t,.none,.none,.none,.bool false,.none],#[]⟩:=e
 refine zaa (zac (zaa (zaa (zeU e' (zaa (zbJ (s:={s with toks:=s.toks+1}) (zcX I.kT hc) ?_))))))
 rw[xx];refine zaa (wpAny_alloc ?_)
 have hal:a<s.heap.objs.size:=zaj e
 have nad:a≠s.heap.objs.size:=zao hal
 have g1:(s.heap.push ({ cls:=.type "dict",data:=.dict #[]}:Obj)).get? s.heap.objs.size=some { cls:=.type "dict",data:=.dict #[]}:=zak _ rfl
 have n1:(s.heap.push ({ cls:=.type "dict",data:=.dict #[]}:Obj)).Ns s.heap.objs.size (λ_=>none):=⟨_,#[],_,g1,rfl,(λe he=>absurd he (by simp)),λ_=>rfl⟩
 have n1':=Heap.Ns1.of_empty n1;have I1:aH X ah σ (bf H s.heap.objs.size (ED s.heap.objs.size [])) { s with heap:=s.heap.push ({ cls:=.type "dict",data:=.dict #[]}:Obj),toks:=s.toks+1}:=
  I.iJ (λb u e=>zab _ e) (zaf _) (M0 n1' (λ_=>True.intro) (λy hy=>absurd rfl hy))
 have e1:(s.heap.push ({ cls:=.type "dict",data:=.dict #[]}:Obj)).get? a=some ⟨.ref C,none,.fields #[.ref t,.none,.none,.none,.bool false,.none],#[]⟩:=zab _ e'
 refine zaa (wpAny_update e1 ?_)
 have e2:((s.heap.push ({ cls:=.type "dict",data:=.dict #[]}:Obj)).update a (λo=>{cls:=o.cls,dict:=some s.heap.objs.size,data:=o.data,slots:=o.slots})).get? a=some (k_ C (some s.heap.objs.size) t):=by
  rw[zaA _ e1 rfl];rfl
 have hH1:(bf H s.heap.objs.size (ED s.heap.objs.size [])) a=some (EO a C none):=by rw[av nad];exact ha
 have I2:=I1.j6 (x:=a) (e:=a) (o:=EO a C (some s.heap.objs.size)) (t':=s.toks+1) (h':=(s.heap.push ({ cls:=.type "dict",data:=.dict #[]}:Obj)).update a (λo=>{cls:=o.cls,dict:=some s.heap.objs.size,data:=o.data,slots:=o.slots}))
  (by rw[hH1];exact True.intro) (.inl rfl) (λb z hb q=>(zaE _ _ (zbe hb)).trans q) ⟨_,e2⟩ (MZ e2)
 have n2:((s.heap.push ({ cls:=.type "dict",data:=.dict #[]}:Obj)).update a (λo=>{cls:=o.cls,dict:=some s.heap.objs.size,data:=o.data,slots:=o.slots})).Ns1 s.heap.objs.size (λ_=>none):=
  n1'.at λo z=>(zaE _ _ nad).trans z
 refine zac ?_
 refine zaa (zac (zaa ?_))
 refine wpAny_nsSet1 n2 λh' RP LF=>?_
 obtain⟨oD,esD,epD,hoD,hdD,hcD⟩:=RP.count (PySem.Within.cons g u (ns:=[]) (λy hy=>absurd rfl hy))
 refine zaa (zem hoD (by rw[hdD];exact zen (zah hcD (show 1<=sizeLine+1 by decide))) ?_)
 refine zac (h s.heap.objs.size _ abw ?_)
 have hHd:(bf (bf H s.heap.objs.size (ED s.heap.objs.size [])) a (EO a C (some s.heap.objs.size))) s.heap.objs.size=some (ED s.heap.objs.size []):=by rw[av (zbe nad),aq]
 have I3:=I2.j6 (x:=s.heap.objs.size) (e:=s.heap.objs.size) (o:=ED s.heap.objs.size [(g,y)]) (t':=s.toks+1+1) (h':=h')
  (by rw[hHd];exact True.intro) (.inl rfl) (λb z hb q=>(LF.2 b hb).trans q) ⟨_,hoD⟩ (M0 RP (λf=>?_) (λf hf=>?_))
 ·rw[M5 (zbe nad),G0] at I3
  exact I3
 ·show jf (List.lookup f [(g,y)]) (if f=g then some u else none)
  rw[zaV];by_cases q:f=g
  ·rw[if_pos q,show (f == g)=true from by simpa using q]
   exact ry
  ·rw[if_neg q,show (f == g)=false from by simpa using q]
   exact True.intro
 ·have hf:(if f=g then some u else none)≠none:=hf
  by_cases q:f=g
  ·rw[q];simp
  ·rw[if_neg q] at hf;exact absurd rfl hf
theorem M7 (I:aH X ah σ H s)(M:sU X.K C f bm)(ha:H a=some (EO a C (some d)))(hd:H d=some (ED d fs))(hl:fs.length<1000)(hn:PySem.W.findIn X.K (.ref C) g=some none)(ry:bI y u)
  (h:∀s',aH X ah σ (bf H d (ED d (gB g y fs))) s'->Q () s'):wpAny (model X.prog X.w) A (setAttr (.ref a) g u) Q E s:=by
 obtain⟨t,e⟩:=M4 I ha;obtain⟨mA,ns,r,wi⟩:=ahV I hd;obtain⟨oD,hoD,_⟩:=yh ns;obtain⟨cd,hc,_,xx⟩:=M.cls;refine yC (b:=λ_=>True) I.kT (abv e hoD) M hn λon tk=>?_
 have e':s.heap.get? a=some ⟨.ref C,some d,.fields #[.ref t,.none,.none,.none,.bool false,.none],#[]⟩:=e
 refine zaa (zac (zaa (zaa (zeU e' (zaa (zbJ (s:={s with toks:=s.toks+1}) (zcX I.kT hc) ?_))))))
 rw[xx];refine zac (a:=some d) (zaa (zac (zaa ?_)))
 refine wpAny_nsSet1 (s:={s with toks:=s.toks+1}) ns λh' RP LF=>?_
 obtain⟨oD',esD,epD,ahW,hdD,hcD⟩:=RP.count (PySem.Within.cons g u wi)
 have apP:(1000:Nat)<=sizeLine:=by decide
 have hz:(fs.map (·.1)).length<1000:=by rw[zad];exact hl
 refine zaa (zem ahW (by rw[hdD];exact zen (zah hcD (by rw[zas];omega))) ?_)
 refine zac (h _ ?_)
 refine I.j6 (x:=d) (e:=d) (o:=ED d (gB g y fs)) (by rw[hd];exact True.intro) (.inl rfl) (λb z hb q=>(LF.2 b hb).trans q) ⟨_,ahW⟩ (M0 RP (λf=>?_) (λf hf=>?_))
 ·show jf ((gB g y fs).lookup f) (if f=g then some u else mA f)
  rw[mL];by_cases q:f=g
  ·rw[if_pos q,if_pos q];exact ry
  ·rw[if_neg q,if_neg q];exact r f
 ·by_cases q:f=g
  ·rw[q];exact (j_ g y fs).1
  ·refine (j_ g y fs).2 f (wi f λz=>hf ?_)
   show (if f=g then some u else mA f)=none
   rw[if_neg q];exact z
def ahX (K:PySem.W.Frag)(ta tv:TE)(g:Str):TS:=λD σ H=>tv σ H λy H1=>ta σ H1 λx H2=>∃a C f bm,x = .ref a/\H2 a=some (EO a C none)/\sU K C f bm/\PySem.W.findIn K (.ref C) g=some none /\
 ∀d,H2 d=none->D.nx σ (bf (bf H2 d (ED d [(g,y)])) a (EO a C (some d)))
def ahY (K:PySem.W.Frag)(ta tv:TE)(g:Str):TS:=λD σ H=>tv σ H λy H1=>ta σ H1 λx H2=>∃a C f bm d fs,x = .ref a/\H2 a=some (EO a C (some d))/\H2 d=some (ED d fs)/\fs.length<1000/\sU K C f bm/\PySem.W.findIn K (.ref C) g=some none /\
 D.nx σ (bf H2 d (ED d (gB g y fs)))
theorem Tw (ha:PE X o ta)(hv:PE X value tv)(hs:swapsWith value (some (.Attribute o g jB)) pos.line X.env=pure false:=by rfl):PS X (.Assign [.Attribute o g jB] value pos) (ahX X.K ta tv g):=by
 intro ah s σ H D I h;refine zcv (cP (hv ah s σ H _ I h) λu s1 ⟨y,H1,I1,ry,q⟩=>cP (ha ah s1 σ H1 _ I1 q) λov s2 eZ=>?_) hs
 obtain⟨x,H2,I2,rx,a,C,f,bm,ex,ea,M,n,q2⟩:=eZ;subst ex;obtain rfl:ov=Value.ref a:=rx
 exact M6 I2 M ea n ry λd s3 hd I3=>⟨σ,_,I3,q2 d hd⟩
theorem Tz (ha:PE X o ta)(hv:PE X value tv)(hs:swapsWith value (some (.Attribute o g jB)) pos.line X.env=pure false:=by rfl):PS X (.Assign [.Attribute o g jB] value pos) (ahY X.K ta tv g):=by
 intro ah s σ H D I h;refine zcv (cP (hv ah s σ H _ I h) λu s1 ⟨y,H1,I1,ry,q⟩=>cP (ha ah s1 σ H1 _ I1 q) λov s2 jg=>?_) hs
 obtain⟨x,H2,I2,rx,a,C,f,bm,d,fs,ex,ea,ed,hl,M,n,q2⟩:=jg;subst ex;obtain rfl:ov=Value.ref a:=rx
 exact M7 I2 M ea ed hl n ry λs3 I3=>⟨σ,_,I3,q2⟩
section
variable {K:PySem.W.Frag}{C f B:Addr}
end
theorem aH.Ar {fp:List Addr}(I:aH X ah σ H s)(k:∀b o,b∉fp->s.heap.get? b=some o->h'.get? b=some o)
  (hf:∀b∈fp,qI X ah H b):aH X ah σ H {s with heap:=h',toks:=t' }:=by
 refine I.BN (g':=s.gens) (d':=s.drawn) (ch:=fp) (λb hb=>?_) (λb o _ _ hc e _=>k b o hc e) (λb o _ _ hc e _=>⟨o.slots,k b o hc e⟩) (λ_ _ _ _ n=>n)
  (λb o hc e=>⟨o,k b o hc e⟩) (λ_ _ e=>e) (λ_ _ _ e=>e) (λb ps e=>⟨#[],by rw[e];simp⟩) (λm hm=>?_) (λb u e=>?_) I.iX
 ·obtain⟨f0,f1,f2,f3,f4,f5⟩:=hf b hb
  exact⟨f3,f1,f4,f5⟩
 ·obtain⟨o,es,ep,ho,r⟩:=hm
  exact⟨o,es,ep,k _ o (λz=>(hf _ z).2.1 rfl) ho,r⟩
 ·refine (I.bZ b u e).sD (λc v hc q=>k c v (λz=>?_) q) (λ_ q=>q) λ_ _ q=>q
  have f0:=(hf c z).1
  rcases hc with z' | z'
  ·rw[z',e] at f0;cases f0
  ·rw[z'] at f0;cases f0
def Ca (K:PySem.W.Frag)(κ:Bool)(H:Hp)(a:Addr)(xs:List V):Prop:=match κ with|true=>pA K H a xs|false=>jy K H a xs
def mT (κ:Bool)(h:Heap)(it a:Addr)(i:Nat):Prop:=match κ with|true=>h.IsTupleIter it a i|false=>h.IsListIter it a i
def pM (κ:Bool)(h:Heap)(a:Addr)(aJ:Array Value):Prop:=match κ with|true=>h.IsTuple a aJ|false=>h.IsList a aJ
theorem mT.j8 (st:mT κ h it a i):∃o,h.get? it=some o/\∀v,o.data ≠ .cell v:=by
 cases κ with
 |true=>obtain⟨o,e,c,d⟩:=st;exact⟨o,e,λv z=>by rw[d] at z;cases z⟩
 |false=>obtain⟨o,e,c,d⟩:=st;exact⟨o,e,λv z=>by rw[d] at z;cases z⟩
theorem mT.tQ (st:mT κ h it a i)(k:∀o,h.get? it=some o->h'.get? it=some o):mT κ h' it a i:=by
 cases κ with
 |true=>obtain⟨o,e,r⟩:=st;exact⟨o,k o e,r⟩
 |false=>obtain⟨o,e,r⟩:=st;exact⟨o,k o e,r⟩
theorem pM.tQ (st:pM κ h a aJ)(k:∀o,h.get? a=some o->h'.get? a=some o):pM κ h' a aJ:=by
 cases κ with
 |true=>obtain⟨o,e,r⟩:=st;exact⟨o,k o e,r⟩
 |false=>obtain⟨o,e,r⟩:=st;exact⟨o,k o e,r⟩
theorem Fg (hj:s.heap.IsTupleIter j tp n)(hp:s.heap.IsTuple tp vs)(hv:vs[n]? = some v)
  (k:∀h',h'.IsTupleIter j tp (n+1)->Heap.SameBut j s.heap h'->Q v {s with heap:=h' }):wpAny (model prog w) A (Builtin.SmallTypes.nextOf (.ref j)) Q E s:=by
 obtain⟨oj,ej,cj,dj⟩:=id hj;obtain⟨op,ep,_,m,dp⟩:=hp;have hn:¬ ((Value.ref tp == Value.none)=true):=zai
 unfold Builtin.SmallTypes.nextOf;refine zaa (zaH (name:=Str.ofString "__next__") hj.typeIs zck (zaF zck hj.typeIs zdU ?_ (zdL _)))
 show wpAny _ _ (field (.ref j) 0 >>= _) _ _ s
 refine zaa (zay ej dj (x:=.ref tp) rfl ?_)
 show wpAny _ _ (if (Value.ref tp == Value.none)=true then _ else _) _ _ s
 rw[if_neg hn];show wpAny _ _ (field (.ref j) 1 >>= _) _ _ s
 refine zaa (zay ej dj (x:=.int n 0) rfl ?_)
 show wpAny _ _ (seqItems? (.ref tp) >>= _) _ _ s
 refine zaa (zbq ep dp ?_)
 simp only[zbs,hv];refine zaa (zbr ej dj (by simp) (zac ⟨v,rfl,zac (k _ ⟨_,zaA _ ej (zcL (zbx dj _)),(Obj.cls_mapFields ..).trans cj,?_⟩ (zbg ..))⟩))
 rw[zbx dj];simp[rawInt]
theorem JT (hh:A.handled=none)(hj:s.heap.IsTupleIter j tp n)(hp:s.heap.IsTuple tp vs)(hv:vs[n]? = none)
  (k:∀h' x,Heap.ExtBut j s.heap h'->(∃o,h'.get? x=some o/\o.cls = .type "StopIteration")->E (.ref x) {s with heap:=h' }):wpAny (model prog w) A (Builtin.SmallTypes.nextOf (.ref j)) Q E s:=by
 obtain⟨oj,ej,cj,dj⟩:=id hj;obtain⟨op,ep,_,m,dp⟩:=hp;have hn:¬ ((Value.ref tp == Value.none)=true):=zai
 unfold Builtin.SmallTypes.nextOf;refine zaa (zaH (name:=Str.ofString "__next__") hj.typeIs zck (zaF zck hj.typeIs zdU ?_ (zdL _)))
 show wpAny _ _ (field (.ref j) 0 >>= _) _ _ s
 refine zaa (zay ej dj (x:=.ref tp) rfl ?_)
 show wpAny _ _ (if (Value.ref tp == Value.none)=true then _ else _) _ _ s
 rw[if_neg hn];show wpAny _ _ (field (.ref j) 1 >>= _) _ _ s
 refine zaa (zay ej dj (x:=.int n 0) rfl ?_)
 show wpAny _ _ (seqItems? (.ref tp) >>= _) _ _ s
 refine zaa (zbq ep dp ?_)
 simp only[zbs,hv];refine zaa (zcA (zaa (zbr ej dj (by simp) ?_)))
 show wpAny _ _ (newExc (.type "StopIteration") [] >>= _) _ _ _
 refine zaa ?_
 simp only[newExc,newTuple];refine zaa (zaB ?_ (by size_fits))
 refine zaa (m:=firstArgMember _ _) (zdp (a:=Value.none) (by first|rfl | (simp only[firstArgMember];rfl)) (zaB ?_ (by size_fits)))
 simp only[raiseNew];refine zaa (wpAny_handled ?_)
 first|rw[show A.in1.handled=none from hh]|rw[hh]
 exact zaa (zac (wpAny_throw (k _ _ (((zbg ..).extBut.push _).push _) ⟨_,zak _ rfl,rfl⟩)))
theorem kj (hh:A.handled=none)(κ:Bool)(it a:Addr)(o_:a≠it)(aJ:Array Value):
    Draws P w A it [it,a] aJ.size (λi v=>aJ[i]? = some v) (λi h=>mT κ h it a i/\pM κ h a aJ):=by
  cases κ with
  |false=>exact Draws.list hh it a o_ aJ
  |true =>
    exact { live:=λi h st=>let ⟨o,e,_⟩:=st.1;⟨o,e⟩
            frame:=λi h h' st k=>⟨st.1.tQ λo e=>k it (by simp) o e,st.2.tQ λo e=>k a (by simp) o e⟩
            item:=λi s Q E hi st k=>Fg st.1 st.2 (v:=aJ[i]) (by simp[hi]) λh' G7 sb=>k _ h' s.toks (by simp[hi]) ⟨G7,Heap.IsTuple.extBut st.2 sb.extBut o_⟩ sb
            done:=λs Q E st k=>JT hh st.1 st.2 (by simp) k}
theorem aH.src (I:aH X ah σ H s)(h:Ca X.K κ H a xs):∃aJ:List Value,bE xs aJ/\pM κ s.heap a aJ.toArray/\xs.length<=sizeLine:=by
 cases κ with
 |true =>
  obtain⟨aJ,r,p,z⟩:=I.fY h;exact⟨aJ,r,p,z⟩
 |false =>
  obtain⟨aJ,r,p,z⟩:=I.list h;exact⟨aJ,r,p.isList,z⟩
theorem aH.Hv (I:aH X ah σ H s)(h:Ca X.K κ H a xs)(h':Ca X.K κ H a ys):xs=ys:=by
 cases κ with
 |true=>exact I.JA h h'
 |false=>exact I.BS h h'
theorem aH.aby {fp:List Addr}(I:aH X ah σ H s)(hf:∀b∈fp,qI X ah H b)(rx:bI x u)(ry:bI y v)
  (lt:∀b∈fp,b<s.heap.objs.size) (hT:h'.get? s.heap.objs.size=some { cls:=.type "tuple",data:=.seq #[u,v]}) (k:∀b o,b∉fp->s.heap.get? b=some o->h'.get? b=some o):
  aH X ah σ (bf H s.heap.objs.size (.gn [x,y])) {s with heap:=h',toks:=t' }/\∀b∈fp,bf H s.heap.objs.size (.gn [x,y]) b=none:=by
 have ne:∀b∈fp,b≠s.heap.objs.size:=λb hb=>zao (lt b hb)
 have fr:∀b∈fp,bf H s.heap.objs.size (.gn [x,y]) b=none:=λb hb=>by rw[av (ne b hb)];exact (hf b hb).1
 have I1:=I.iJ (h':=s.heap.push { cls:=.type "tuple",data:=.seq #[u,v]}) (t':=t') (a:=s.heap.objs.size) (o:=.gn [x,y]) (λb o e=>zab _ e) (zaf _)
  (show bP X.prog X.w _ _ _ (.gn [x,y]) from ⟨(by show 2<=sizeLine;decide),[u,v],.cons rx (.cons ry .nil),IsTup.new _ _⟩)
 refine⟨aH.Ar (s:={ s with heap:=s.heap.push { cls:=.type "tuple",data:=.seq #[u,v]},toks:=t' }) (t':=t') (fp:=fp) I1 (λb o hb e=>?_) λb hb=>⟨fr b hb,(hf b hb).2⟩,fr⟩
 have e:(s.heap.push { cls:=.type "tuple",data:=.seq #[u,v]}).get? b=some o:=e
 by_cases z:b=s.heap.objs.size
 ·subst z
  rw[zak _ rfl] at e;cases e;exact hT
 ·rw[zdZ _ _ _ z] at e
  exact k b o hb e
def ank (tv:TE):TE:=λσ H Q=>tv σ H λv H1=>(∃x,v = .str x/\x.length<=sizeLine/\Q (.str x) H1)\/(∃i:Int,v = .int i/\i.natAbs.log2<1920/\Q (.str (toString i)) H1)
theorem abz (h:PE X value tv):PE X (.FormattedValue value (-1) none pos) (ank tv):=by
 intro ah s σ H Q I hq;refine FormattedValue_plain (cP (h ah s σ H _ I hq) λv s1 bU=>?_)
 obtain⟨y,H1,I1,r,q⟩:=bU;rcases q with⟨x,rfl,hz,q⟩|⟨i,rfl,hd,q⟩
 ·obtain⟨t,rfl⟩:=r
  exact formatField_str (λt' tk=>⟨.str x,H1,I1.o9 tk,⟨_,rfl⟩,q⟩) hz
 ·obtain⟨t,rfl⟩:=r
  exact formatField_int_small hd ⟨.str (toString i),H1,I1.o9 _,⟨_,rfl⟩,q⟩
noncomputable abbrev TJ:=Str->TE
def PJ (X:Cx)(es:List Expr)(t:TJ):Prop:=
 ∀(bO:Str) (ah:List (Addr×Obj)) (s:Shared) (σ:St) (H:Hp) (Q:VK),aH X ah σ H s->t bO σ H Q->wpAny (model X.prog X.w) X.A (joinParts bO (evalEach es X.env)) (EP X ah σ Q) X.xe s
noncomputable def ahZ:TJ:=λbO _ H Q=>bO.length<=sizeLine/\Q (.str bO) H
noncomputable def abA (te:TE)(tr:TJ):TJ:=λbO σ H Q=>te σ H λv H1=>∃y,v = .str y/\(bO++y).length<=sizeLine/\tr (bO++y) σ H1 Q
theorem abC:PJ X [] ahZ:=λbO ah s σ H Q I h=>joinParts_nil ⟨.str bO,H,I.o9 _,⟨_,rfl⟩,h.2⟩ h.1
theorem TH (he:PE X e te)(hr:PJ X es tr):PJ X (e::es) (abA te tr):=by
 intro bO ah s σ H Q I h;show wpAny _ _ (joinParts bO (eval e X.env::evalEach es X.env)) _ _ _
 refine joinParts_cons (cP (he ah s σ H _ I h) λv s1 dh=>?_)
 obtain⟨z,H1,I1,r,y,ez,hz,q⟩:=dh;subst ez;obtain⟨t,rfl⟩:=r;exact⟨hz,hr _ ah s1 σ H1 Q I1 q⟩
theorem TL (h:PJ X (e1::e2::es) t):PE X (.JoinedStr (e1::e2::es) pos) (t Str.empty):=λah s σ H Q I hq=>JoinedStr_many (h Str.empty ah s σ H Q I hq)
structure uc (Z TI TO i1 i2:Addr) (BF Eu:List Addr):Prop where
 a1:TI≠Z
 a2:TO≠Z
 a3:TI≠TO
 a4:TI≠i1
 a5:TI≠i2
 a6:TO≠i1
 a7:TO≠i2
 a8:i1≠i2
 a9:i1≠Z
 a10:i2≠Z
 b1:Z∉BF
 b2:TO∉BF
 b3:i2∉BF
 c1:Z∉Eu
 c2:TO∉Eu
 c3:i1∉Eu
section
variable {prog:Program}{w:World}{A:Around}{E:Value->Shared->Prop}{s:Shared}{Z TI TO i1 i2:Addr}{BF Eu:List Addr}{n1 n2 k:Nat}{Y1 Y2:Nat->Value->Prop}{S1 S2:Nat->Heap->Prop}{p q:Value}
theorem JU {Q:Value->Shared->Prop}(D1:Draws prog w A i1 BF n1 Y1 S1)(D2:Draws prog w A i2 Eu n2 Y2 S2)(N:uc Z TI TO i1 i2 BF Eu)(zZ:IsZip s.heap Z TI TO .none)(zI:IsPair s.heap TI (.ref i1) (.ref i2))(zO:IsPair s.heap TO p q)
  (s1:S1 k s.heap) (s2:S2 k s.heap) (l1:k<n1) (l2:k<n2)
  (kk:∀x y h' tk,Y1 k x->Y2 k y->IsZip h' Z TI TO (rawInt s.heap.objs.size)->IsPair h' TO x y->S1 (k+1) h'->S2 (k+1) h'->IsPair h' s.heap.objs.size x y->(∀c o,c≠Z->c≠TO->c≠i1->c≠i2->s.heap.get? c=some o->h'.get? c=some o)->Q (.ref s.heap.objs.size) {s with heap:=h',toks:=tk}):
  wpAny (model prog w) A (Builtin.«zip.__next__» ⟨[.ref Z],[]⟩) (λfP s'=>∃v,fP = .done (.ret v)/\Q v s') E s:=by
 obtain⟨hp,g,d,tk0,os⟩:=s;show wpAny _ _ (field (.ref Z) 2 >>= _) _ _ _
 refine zaa (zay zZ rfl (x:=.bool false) rfl ?_)
 show wpAny _ _ (field (.ref Z) 3 >>= _) _ _ _
 refine zaa (zay zZ rfl (x:=.ref TI) rfl (zaa (zbq zI rfl ?_)))
 show wpAny _ _ (Builtin.SmallTypes.ownedTupleIsFree (.ref Z) >>= _) _ _ _
 refine zaa ?_
 unfold Builtin.SmallTypes.ownedTupleIsFree;refine zaa (zay zZ rfl (x:=.none) rfl (zac ?_))
 simp only[if_true];refine zaa (zcA (zaa (zay zZ rfl (x:=.ref TO) rfl ?_)))
 refine zaa (zbL zZ (by simp) λg1 M8 b1=>?_)
 replace M8:IsZip g1 Z TI TO .ellipsis:=M8
 replace b1:Heap.SameBut Z hp g1:=b1
 refine zaa ?_
 simp only[List.zipIdx_cons,List.zipIdx_nil,List.forIn_cons,List.forIn_nil];-- yc first
 refine zaa (zaa (zdr ?_))
 show wpAny _ _ (Builtin.SmallTypes.nextOf (.ref i1) >>= _) _ _ _
 refine zaa (D1.item k _ _ _ l1 (D1.frame _ _ _ s1 λb hb o e=>b1.extBut b o (λz=>N.b1 (z ▸ hb)) e) λx g2 t2 y1 s12 b2=>zac ?_)
 replace b2:Heap.SameBut i1 g1 g2:=b2
 have zO2:IsPair g2 TO p q:=b2.extBut _ _ N.a6 (b1.extBut _ _ N.a2 zO)
 refine zaa (zbq zO2 rfl (zaa (zdC zO2 λg3 zO3 b3=>?_)))
 replace zO3:IsPair g3 TO x q:=zO3
 replace b3:Heap.SameBut TO g2 g3:=b3
 refine zaa (zeP (zac ?_))
 -- yc abE
 refine zaa (zaa (zdr ?_))
 show wpAny _ _ (Builtin.SmallTypes.nextOf (.ref i2) >>= _) _ _ _
 refine zaa (D2.item k _ _ _ l2 (D2.frame _ _ _ s2 λb hb o e=>b3.extBut b o (λz=>N.c2 (z ▸ hb)) (b2.extBut b o (λz=>N.c3 (z ▸ hb)) (b1.extBut b o (λz=>N.c1 (z ▸ hb)) e))) λy g4 t4 y2 s24 b4=>zac ?_)
 replace b4:Heap.SameBut i2 g3 g4:=b4
 have zO4:IsPair g4 TO x q:=b4.extBut _ _ N.a7 zO3
 refine zaa (zbq zO4 rfl (zaa (zdC zO4 λg5 zO5 b5=>?_)))
 replace zO5:IsPair g5 TO x y:=zO5
 replace b5:Heap.SameBut TO g4 g5:=b5
 refine zaa (zeP (zac (zac ?_)))
 -- yc arL
 refine zaa (zbq zO5 rfl (zaa (wpAny_newTuple ?_)))
 have z5:g5.objs.size=hp.objs.size:=by rw[b5.1,b4.1,b3.1,b2.1,b1.1]
 have zZ5:IsZip g5 Z TI TO .ellipsis:=b5.extBut _ _ N.a2.symm (b4.extBut _ _ N.a10.symm (b3.extBut _ _ N.a2.symm (b2.extBut _ _ N.a9.symm M8)))
 have s15:S1 (k+1) g5:=D1.frame _ _ _ s12 λb hb o e=>b5.extBut b o (λz=>N.b2 (z ▸ hb)) (b4.extBut b o (λz=>N.b3 (z ▸ hb)) (b3.extBut b o (λz=>N.b2 (z ▸ hb)) e))
 have s25:S2 (k+1) g5:=D2.frame _ _ _ s24 λb hb o e=>b5.extBut b o (λz=>N.c2 (z ▸ hb)) e
 have ah1:∀c o,c≠Z->c≠TO->c≠i1->c≠i2->hp.get? c=some o->g5.get? c=some o:=λc o n1 n2 n3 n4 e=>b5.extBut _ _ n2 (b4.extBut _ _ n4 (b3.extBut _ _ n2 (b2.extBut _ _ n3 (b1.extBut _ _ n1 e))))
 have Zlt:Z<g5.objs.size:=zaj zZ5
 show wpAny _ _ (Builtin.SmallTypes.ownedTupleHandOut (.ref Z) (.ref g5.objs.size) >>= _) _ _ _
 refine zaa ?_
 unfold Builtin.SmallTypes.ownedTupleHandOut;have zZ6:IsZip (g5.push { cls:=.type "tuple",data:=.seq #[x,y]}) Z TI TO .ellipsis:=zab _ zZ5
 refine zaa (zbL zZ6 (by simp) λg7 zZ7 b7=>?_)
 replace zZ7:IsZip g7 Z TI TO (rawInt g5.objs.size):=zZ7
 replace b7:Heap.SameBut Z (g5.push { cls:=.type "tuple",data:=.seq #[x,y]}) g7:=b7
 refine zbL zZ7 (by simp) λg8 zZ8 b8=>?_
 replace zZ8:IsZip g8 Z TI TO (rawInt g5.objs.size):=zZ8
 replace b8:Heap.SameBut Z g7 g8:=b8
 have up:∀c o,c≠Z->g5.get? c=some o->g8.get? c=some o:=λc o n e=>b8.extBut _ _ n (b7.extBut _ _ n (zab _ e))
 have zT:IsPair g8 g5.objs.size x y:=b8.extBut _ _ (zbv Zlt) (b7.extBut _ _ (zbv Zlt) (zak _ rfl))
 rw[z5] at zZ8 zT;refine zac ⟨_,rfl,?_⟩
 show Q (.ref g5.objs.size) _
 rw[z5];exact kk x y g8 _ y1 y2 zZ8 (up _ _ N.a2 zO5) (D1.frame _ _ _ s15 λb hb o e=>up b o (λz=>N.b1 (z ▸ hb)) e) (D2.frame _ _ _ s25 λb hb o e=>up b o (λz=>N.c1 (z ▸ hb)) e) zT λc o m1 m2 m3 m4 e=>up c o m1 (ah1 c o m1 m2 m3 m4 e)
theorem M9 {Q:Fin->Shared->Prop}(D1:Draws prog w A i1 BF n1 Y1 S1)(N:uc Z TI TO i1 i2 BF Eu)(zZ:IsZip s.heap Z TI TO .none)(zI:IsPair s.heap TI (.ref i1) (.ref i2))(s1:S1 n1 s.heap)
  (kk:∀h' x,(∀c o,c≠Z->c≠i1->s.heap.get? c=some o->h'.get? c=some o)->(∃o,h'.get? x=some o/\o.cls = .type "StopIteration")->E (.ref x) {s with heap:=h' }):
  wpAny (model prog w) A (Builtin.«zip.__next__» ⟨[.ref Z],[]⟩) Q E s:=by
 show wpAny _ _ (field (.ref Z) 2 >>= _) _ _ _
 refine zaa (zay zZ rfl (x:=.bool false) rfl ?_)
 show wpAny _ _ (field (.ref Z) 3 >>= _) _ _ _
 refine zaa (zay zZ rfl (x:=.ref TI) rfl (zaa (zbq zI rfl ?_)))
 show wpAny _ _ (Builtin.SmallTypes.ownedTupleIsFree (.ref Z) >>= _) _ _ _
 refine zaa ?_
 unfold Builtin.SmallTypes.ownedTupleIsFree;refine zaa (zay zZ rfl (x:=.none) rfl (zac ?_))
 simp only[if_true];refine zaa (zcA (zaa (zay zZ rfl (x:=.ref TO) rfl ?_)))
 refine zaa (zbL zZ (by simp) λg1 M8 b1=>?_)
 replace M8:IsZip g1 Z TI TO .ellipsis:=M8
 replace b1:Heap.SameBut Z s.heap g1:=b1
 refine zaa ?_
 simp only[List.zipIdx_cons,List.zipIdx_nil,List.forIn_cons,List.forIn_nil];refine zaa (zaa (zdr ?_))
 show wpAny _ _ (Builtin.SmallTypes.nextOf (.ref i1) >>= _) _ _ _
 refine zaa (D1.done _ _ _ (D1.frame _ _ _ s1 λb hb o e=>b1.extBut b o (λz=>N.b1 (z ▸ hb)) e) λg2 x b2 hx=>?_)
 replace b2:Heap.ExtBut i1 g1 g2:=b2
 obtain⟨ox,ex,cx⟩:=hx;have zZ2:IsZip g2 Z TI TO .ellipsis:=b2 _ _ N.a9.symm M8
 have xZ:x≠Z:=λz=>by
  subst z;rw[zZ2] at ex;cases ex;simp at cx
 exact zbL zZ2 (by simp) λg3 _ b3=>kk g3 x (λc o m1 m2 e=>b3.extBut _ _ m1 (b2 _ _ m2 (b1.extBut _ _ m1 e))) ⟨ox,b3.extBut _ _ xZ ex,cx⟩
theorem Fi {Q:Option Value->Shared->Prop}(D1:Draws prog w A.in1 i1 BF n1 Y1 S1)(D2:Draws prog w A.in1 i2 Eu n2 Y2 S2)(N:uc Z TI TO i1 i2 BF Eu)(zZ:IsZip s.heap Z TI TO .none)(zI:IsPair s.heap TI (.ref i1) (.ref i2))(zO:IsPair s.heap TO p q)
  (s1:S1 k s.heap) (s2:S2 k s.heap) (l1:k<n1) (l2:k<n2)
  (kk:∀x y h' tk,Y1 k x->Y2 k y->IsZip h' Z TI TO (rawInt s.heap.objs.size)->IsPair h' TO x y->S1 (k+1) h'->S2 (k+1) h'->IsPair h' s.heap.objs.size x y->(∀c o,c≠Z->c≠TO->c≠i1->c≠i2->s.heap.get? c=some o->h'.get? c=some o)->Q (some (.ref s.heap.objs.size)) {s with heap:=h',toks:=tk}):
  wpAny (model prog w) A (pyNext (.ref Z)) Q E s:=by
 have zT:s.TypeIs (.ref Z) "zip" := ⟨_,zZ,rfl⟩
 unfold pyNext;exact zaa (zcz (zaH (name:=Str.ofString "__next__") zT zcE (zaF zcE zT zes
  (JU D1 D2 N zZ zI zO s1 s2 l1 l2 λx y h' tk r1 r2 r3 r4 r5 r6 r7 r8=>zac (kk x y h' tk r1 r2 r3 r4 r5 r6 r7 r8)) (zea _))))
theorem JV {Q:Option Value->Shared->Prop}(D1:Draws prog w A.in1 i1 BF n1 Y1 S1)(N:uc Z TI TO i1 i2 BF Eu)(zZ:IsZip s.heap Z TI TO .none)(zI:IsPair s.heap TI (.ref i1) (.ref i2))(s1:S1 n1 s.heap)
  (kk:∀h',(∀c o,c≠Z->c≠i1->s.heap.get? c=some o->h'.get? c=some o)->Q none {s with heap:=h' }):wpAny (model prog w) A (pyNext (.ref Z)) Q E s:=by
 have zT:s.TypeIs (.ref Z) "zip" := ⟨_,zZ,rfl⟩
 unfold pyNext;refine zaa (zcz (zaH (name:=Str.ofString "__next__") zT zcE (zaF zcE zT zes (M9 D1 N zZ zI s1 λh' x up hx=>?_) (zea _))))
 obtain⟨ox,ex,cx⟩:=hx;exact zaa (zcP (T:= "StopIteration") (b:=true) ⟨ox,ex,cx⟩ zdM (zac (kk _ up)))
end
def Itz (K:PySem.W.Frag)(ud yD:Bool)(a b:Addr):It:=
  ⟨λi H=>∃xs ys x y,Ca K ud H a xs/\Ca K yD H b ys/\xs[i]? = some x/\ys[i]? = some y,
   λi H v H'=>∃T x y,H T=none/\v = .ref T/\H'=bf H T (.gn [x,y])/\(∀xs,Ca K ud H a xs->xs[i]? = some x)/\∀ys,Ca K yD H b ys->ys[i]? = some y,
   λi H=>∃xs,Ca K ud H a xs/\xs.length=i⟩
theorem LK {x y:Nat}(h:x<y): @Ne Addr x y:=zao h
theorem Ew {x y:Nat}(h:y<x): @Ne Addr x y:=zbv h
theorem JW {z x y:Addr}(h1:z≠x)(h2:z≠y):z∉[x,y]:=by simp[h1,h2]
theorem ue {a b n:Nat}(ha:a<n)(hb:b<n):uc (n+4:Nat) (n+2:Nat) (n+3:Nat) n (n+1:Nat) [n,a] [(n+1:Nat),b]:=
  ⟨LK (by omega),LK (by omega),LK (by omega),Ew (by omega),Ew (by omega),Ew (by omega),Ew (by omega),LK (by omega),LK (by omega),LK (by omega),
   JW (Ew (by omega)) (Ew (by omega)),JW (Ew (by omega)) (Ew (by omega)),JW (Ew (by omega)) (Ew (by omega)),JW (Ew (by omega)) (Ew (by omega)),JW (Ew (by omega)) (Ew (by omega)),JW (LK (by omega)) (Ew (by omega))⟩
theorem ko {P:Program}{w:World}{K:PySem.W.Frag}{elts:List Expr}{x1}{pos:Pos}(ud yD:Bool)(a b n:Nat)(ha:a<n)(hb:b<n):
    JB P w K (.Tuple elts x1 pos) (Itz K ud yD a b) [(n+4:Nat),(n+2:Nat),(n+3:Nat),n,(n+1:Nat)] (n+4:Nat)
      (λi h=>IsZip h (n+4:Nat) (n+2:Nat) (n+3:Nat) .none/\IsPair h (n+2:Nat) (.ref n) (.ref (n+1:Nat))/\(∃p q,IsPair h (n+3:Nat) p q)/\mT ud h n a i/\mT yD h (n+1:Nat) b i) where
  mem:=by simp
  j8:=λi h t c hc=>by
    obtain⟨zZ,zI,⟨p,q,zO⟩,t1,t2⟩:=t
    simp only[zam,zav,or_false] at hc;rcases hc with rfl|rfl|rfl|rfl|rfl
    · exact⟨_,zZ,λv z=>by cases z⟩
    · exact⟨_,zI,λv z=>by cases z⟩
    · exact⟨_,zO,λv z=>by cases z⟩
    · exact t1.j8
    · exact t2.j8
  keep:=λi h h' t k=>by
    obtain⟨zZ,zI,⟨p,q,zO⟩,t1,t2⟩:=t
    exact⟨k _ (.head _) _ zZ,k _ (.tail _ (.head _)) _ zI,⟨p,q,k _ (.tail _ (.tail _ (.head _))) _ zO⟩,t1.tQ λo e=>k _ (.tail _ (.tail _ (.tail _ (.head _)))) o e,t2.tQ λo e=>k _ (.tail _ (.tail _ (.tail _ (.tail _ (.head _))))) o e⟩
  item:=by
    intro X hP hw hK hc i ah s σ H E I hf t hg;subst hP hw hK;obtain⟨zZ,zI,⟨p,q,zO⟩,t1,t2⟩:=t
    obtain⟨xs,ys,x,y,hxs,hys,hx,hy⟩:=hg;obtain⟨aJ,rv,so,_⟩:=I.src hxs;obtain⟨RU,z9,so',_⟩:=I.src hys;obtain⟨u,hu,ru⟩:=rv.get hx;obtain⟨v,hv,rv'⟩:=z9.get hy;have hh:X.A.in1.handled=none:=I.ok.hd hc
    have D1:=kj (P:=X.prog) (w:=X.w) (A:=X.A.in1) hh ud n a (LK ha) aJ.toArray
    have D2:=kj (P:=X.prog) (w:=X.w) (A:=X.A.in1) hh yD (n+1:Nat) b (LK (by omega)) RU.toArray
    have N:=ue ha hb;have l1:i<aJ.toArray.size:=by simpa using (zae.mp hu).1
    have l2:i<RU.toArray.size:=by simpa using (zae.mp hv).1
    refine Fi D1 D2 N zZ zI zO ⟨t1,so⟩ ⟨t2,so'⟩ l1 l2 λu' v' h' tk e1 e2 zZ' zO' t1' t2' zT up=>⟨_,rfl,?_⟩
    have eu:u'=u:=by
      have hu':aJ.toArray[i]? = some u:=by simpa using hu
      have e1':aJ.toArray[i]? = some u':=e1
      rw[hu'] at e1';exact (zaw e1').symm
    have ev:v'=v:=by
      have hv':RU.toArray[i]? = some v:=by simpa using hv
      have e2':RU.toArray[i]? = some v':=e2
      rw[hv'] at e2';exact (zaw e2').symm
    subst eu ev;refine wpAny_letOwnedTupleGo_zip (s:={s with heap:=h',toks:=tk}) zZ' λh2 zZ2 sb=>?_
    have sb:Heap.SameBut (n+4:Nat) h' h2:=sb
    have Zlt:(n+4:Nat)<s.heap.objs.size:=zaj zZ
    obtain⟨I2,fr⟩:=I.aby (h':=h2) (t':=tk) (fp:=[(n+4:Nat),(n+2:Nat),(n+3:Nat),n,(n+1:Nat)]) (x:=x) (y:=y) (u:=u') (v:=v') hf ru rv'
      (λc hc=>by
        simp only[zam,zav,or_false] at hc;rcases hc with hc|hc|hc|hc|hc<;>rw[hc]
        · exact Zlt
        · exact (by omega:n+2<s.heap.objs.size)
        · exact (by omega:n+3<s.heap.objs.size)
        · exact (by omega:n<s.heap.objs.size)
        · exact (by omega:n+1<s.heap.objs.size))
      ((sb.2 _ (Ew Zlt)).trans zT) (λc o hc e=>by
        simp only[zam,zav,or_false,not_or] at hc;exact (sb.2 c hc.1).trans (up c o hc.1 hc.2.2.1 hc.2.2.2.1 hc.2.2.2.2 e))
    refine⟨.ref s.heap.objs.size,_,I2,rfl,⟨s.heap.objs.size,x,y,I.bZ.fresh (zaf _),rfl,rfl,λzs hz=>by rw[I.Hv hz hxs];exact hx,λzs hz=>by rw[I.Hv hz hys];exact hy⟩,⟨zZ2,?_,⟨u',v',?_⟩,?_,?_⟩,fr⟩
    · exact (sb.2 _ N.a1).trans (up _ _ N.a1 N.a3 N.a4 N.a5 zI)
    · exact (sb.2 _ N.a2).trans zO'
    · exact t1'.1.tQ λo e=>(sb.2 _ N.a9).trans e
    · exact t2'.1.tQ λo e=>(sb.2 _ N.a10).trans e
  done:=by
    intro X hP hw hK hc i ah s σ H E I hf t hg;subst hP hw hK;obtain⟨zZ,zI,_,t1,t2⟩:=t;obtain⟨xs,hxs,hx⟩:=hg;obtain⟨aJ,rv,so,_⟩:=I.src hxs;have hh:X.A.in1.handled=none:=I.ok.hd hc
    have D1:=kj (P:=X.prog) (w:=X.w) (A:=X.A.in1) hh ud n a (LK ha) aJ.toArray
    have N:=ue ha hb;have hn:aJ.toArray.size=i:=by
      have:=rv.length
      simp
      omega
    exact JV D1 N zZ zI (by rw[hn];exact⟨t1,so⟩) λh' up=>⟨rfl,I.Ar (fp:=[(n+4:Nat),(n+2:Nat),(n+3:Nat),n,(n+1:Nat)]) (t':=s.toks) (λc o hc e=>up c o (λz=>hc (by simp[z])) (λz=>hc (by simp[z])) e) hf⟩
  self:=λ_ _ _ _ _ t h=>wpAny_pyIter_zip t.1 h
noncomputable abbrev zq1 (h:Heap)(o1:Obj):Heap:=h.push o1
noncomputable abbrev zq2 (h:Heap)(o1 o2:Obj):Heap:=(zq1 h o1).push o2
noncomputable abbrev zq3 (h:Heap)(o1 o2:Obj):Heap:=(zq2 h o1 o2).push { cls:=.type "tuple",data:=.seq #[.ref h.objs.size,.ref (zq1 h o1).objs.size]}
noncomputable abbrev WW (h:Heap)(o1 o2:Obj):Heap:=(zq3 h o1 o2).push { cls:=.type "tuple",data:=.seq #[.none,.none]}
noncomputable abbrev Ex (h:Heap)(o1 o2:Obj):Heap:=(WW h o1 o2).push { cls:=.type "zip",data:=.fields #[.none,.bool false,.bool false,.ref (zq2 h o1 o2).objs.size,.ref (zq3 h o1 o2).objs.size]}
theorem M_ (h:Heap)(o1 o2:Obj)(f1:o1.isFreed=false)(f2:o2.isFreed=false):(WW h o1 o2).objs.size=h.objs.size+4/\IsZip (Ex h o1 o2) (h.objs.size+4) (h.objs.size+2) (h.objs.size+3) .none /\
  IsPair (Ex h o1 o2) (h.objs.size+2) (.ref h.objs.size) (.ref (h.objs.size+1))/\IsPair (Ex h o1 o2) (h.objs.size+3) .none .none/\(Ex h o1 o2).get? h.objs.size=some o1/\(Ex h o1 o2).get? (h.objs.size+1)=some o2 /\
  ∀c o,h.get? c=some o->(Ex h o1 o2).get? c=some o:=by
 have s1:(zq1 h o1).objs.size=h.objs.size+1:=zbp ..
 have s2:(zq2 h o1 o2).objs.size=h.objs.size+2:=by rw[zbp,s1]
 have s3:(zq3 h o1 o2).objs.size=h.objs.size+3:=by rw[zbp,s2]
 have s4:(WW h o1 o2).objs.size=h.objs.size+4:=by rw[zbp,s3]
 have e5:(Ex h o1 o2).get? (WW h o1 o2).objs.size=some _:=zak _ rfl
 have e4:(Ex h o1 o2).get? (zq3 h o1 o2).objs.size=some _:=zab _ (zak _ rfl)
 have e3:(Ex h o1 o2).get? (zq2 h o1 o2).objs.size=some _:=zab _ (zab _ (zak _ rfl))
 have e2:(Ex h o1 o2).get? (zq1 h o1).objs.size=some o2:=zab _ (zab _ (zab _ (zak _ f2)))
 have e1:(Ex h o1 o2).get? h.objs.size=some o1:=zab _ (zab _ (zab _ (zab _ (zak _ f1))))
 rw[s2,s3,s4] at e5;rw[s1,s2] at e3;rw[s3] at e4;rw[s1] at e2;exact⟨s4,e5,e3,e4,e1,e2,λc o e=>zab _ (zab _ (zab _ (zab _ (zab _ e))))⟩
noncomputable def gX (κ:Bool)(a:Addr):Obj:=match κ with|true=>{ cls:=.type "tuple_iterator",data:=.fields #[.ref a,.int 0 0]} | false=>{ cls:=.type "list_iterator",data:=.fields #[.ref a,.int 0 0]}
theorem Fj (a b:Addr)(xs ys:Array Value):
  Meets (Builtin.«zip.__new__» ⟨[.type "zip",.ref a,.ref b],[]⟩) (λ_ R s=>s.heap.IsTuple a xs/\s.heap.IsTuple b ys/\R (.ok (.ret (.ref (WW s.heap (gX true a) (gX true b)).objs.size))) {s with heap:=Ex s.heap (gX true a) (gX true b)}):=
 .of_wp λprog w A R s h=>by
  obtain⟨hp,g,d,tk,os⟩:=s;obtain⟨h1,h2,h⟩:=h;have uf:=sub_zip;have q1:Heap.IsTuple (Shared.heap ⟨hp,g,d,tk,os⟩) a xs:=h1
  have q2:Heap.IsTuple (Shared.heap ⟨hp.push { cls:=.type "tuple_iterator",data:=.fields #[.ref a,.int 0 0]},g,d,tk,os⟩) b ys:=Heap.IsTuple.push h2 _
  wp_walk using wpAny_pyIter_tuple q1,wpAny_pyIter_tuple q2
  exact⟨_,rfl,h⟩
theorem Fl (a b:Addr)(xs ys:Array Value):
  Meets (Builtin.«zip.__new__» ⟨[.type "zip",.ref a,.ref b],[]⟩) (λ_ R s=>s.heap.IsList a xs/\s.heap.IsList b ys/\R (.ok (.ret (.ref (WW s.heap (gX false a) (gX false b)).objs.size))) {s with heap:=Ex s.heap (gX false a) (gX false b)}):=
 .of_wp λprog w A R s h=>by
  obtain⟨hp,g,d,tk,os⟩:=s;obtain⟨h1,h2,h⟩:=h;have uf:=sub_zip;have q1:Heap.IsList (Shared.heap ⟨hp,g,d,tk,os⟩) a xs:=h1
  have q2:Heap.IsList (Shared.heap ⟨hp.push { cls:=.type "list_iterator",data:=.fields #[.ref a,.int 0 0]},g,d,tk,os⟩) b ys:=Heap.IsList.push h2 _
  wp_walk using zbS q1,zbS q2
  exact⟨_,rfl,h⟩
theorem JX (κ:Bool)(a b:Addr)(xs ys:Array Value):
  Meets (Builtin.«zip.__new__» ⟨[.type "zip",.ref a,.ref b],[]⟩) (λ_ R s=>pM κ s.heap a xs/\pM κ s.heap b ys/\R (.ok (.ret (.ref (WW s.heap (gX κ a) (gX κ b)).objs.size))) {s with heap:=Ex s.heap (gX κ a) (gX κ b)}):=by
 cases κ with
 |true=>exact Fj a b xs ys
 |false=>exact Fl a b xs ys
theorem Cb {κ:Bool}{h:Heap}{a it:Addr}(e:h.get? it=some (gX κ a)):mT κ h it a 0:=by
 cases κ with
 |true=>exact⟨_,e,rfl,rfl⟩
 |false=>exact⟨_,e,rfl,rfl⟩
theorem ug {κ:Bool}{a:Addr}:(gX κ a).isFreed=false:=by cases κ<;>rfl
theorem pM.lt {κ:Bool}{h:Heap}{a:Addr}{aJ:Array Value}(st:pM κ h a aJ):a<h.objs.size:=by
 cases κ with
 |true=>obtain⟨o,e,_⟩:=st;exact zaj e
 |false=>obtain⟨o,e,_⟩:=st;exact zaj e
theorem Na:bootBuiltins "zip"=some (.type "zip"):=by decide +kernel
open AutoSeq1 (wpAny_loadPart')
theorem Nb (a b:Str):(a++b).cps.toList=a.cps.toList++b.cps.toList:=by rw[Str.cps_append,Array.toList_append]
theorem WX {j l:Addr}{vs:Array Value}(hn:l≠j):∀(m i:Nat) (s:Shared) (Q:List Value->Shared->Prop),s.heap.IsListIter j l i->s.heap.IsList l vs->i+m<=vs.size ->
  (∀h',h'.IsListIter j l (i+m)->Heap.SameBut j s.heap h'->Q ((vs.toList.drop i).take m) {s with heap:=h' })->wpAny (model prog w) A (draw (.ref j) m) Q E s
 |0,i,s,Q,hj,_,_,k=>by
  show wpAny _ _ (pure []) Q E s
  exact zac (by simpa using k s.heap hj (zfO ..))
 |m+1,i,s,Q,hj,hl,hle,k=>by
  have lt:i<vs.size:=by omega
  show wpAny _ _ (pyNext (.ref j) >>= _) Q E s
  refine zaa (wpAny_pyNext_list_item hj hl (x:=vs[i]) (by simp[lt]) λg1 j1 b1=>zaa (zaz (WX hn m (i+1) _ _ j1 (hl.extBut b1.extBut hn) (by omega) λg2 j2 b2=>zac ?_)))
  have e:vs.toList.drop i=vs[i]::vs.toList.drop (i+1):=by simp[zdc,lt]
  have q:=k g2 (by rw[show i+(m+1)=i+1+m by omega];exact j2) (b1.trans b2)
  rw[e,List.take_succ_cons] at q;exact q
theorem TM {s:Shared}{l:Addr}{vs:Array Value}{Q:List Value->Shared->Prop}(hh:A.handled=none)(hl:s.heap.IsList l vs)(k:∀h',Heap.ExtBut s.heap.objs.size s.heap h'->Q vs.toList {s with heap:=h' }):
  wpAny (model prog w) A (unpackItems (.ref l) vs.size none) Q E s:=by
 have lt:l≠s.heap.objs.size:=by obtain⟨o,e,_⟩:=hl;exact zao (zaj e)
 unfold unpackItems;refine zaa ?_
 unfold notIterableAtAll;refine zaa (zdy hl.typeIs slot_list_iter.lookup (zac ?_))
 simp only[zaC,if_false];refine zaa (zaz (zbS hl (zaa (zaz (WX lt vs.size 0 _ _ ⟨_,zak _ rfl,rfl,rfl⟩ (hl.push _) (by omega) λg1 j1 b1=>?_)))))
 have all:List.take vs.size (List.drop 0 vs.toList)=vs.toList:=by
  rw[List.drop_zero];exact zbd (by simp)
 rw[all,if_neg (by simp)]
 refine zaa (zaz (wpAny_pyNext_list_end hh j1 ((hl.push _).extBut b1.extBut lt) (by simp) λg2 b2=>?_))
 simp only[Option.isSome_none,zaC,if_false];exact zac (k g2 λb o hb e=>b2 b o hb (b1.extBut b o hb (zab _ e)))
def ah6 (K:PySem.W.Frag)(n:Nat)(t:WK):TG:=λv σ H Q=>∃a xs,v = .ref a/\jy K H a xs/\xs.length=n/\t xs σ H Q
theorem TN {X:Cx}{es:List Expr}{k:Nat}{pos:Pos}{t:WK}{n:Nat}(hc:X.d9=true)(h:RN X es t)
  (hn:(assignEach es X.env).length=n:=by rfl) (om:(assignEach es X.env).findIdx? (·.1)=none:=by rfl):PG X (.Tuple es k pos) (ah6 X.K n t):=by
 intro ah s σ H v u Q I r hw;obtain⟨a,xs,e1,hq,hl,hw⟩:=hw;subst e1;cases r;obtain⟨aJ,rv,pl,hz⟩:=I.list hq;rw[assign_Tuple];refine zaa (zcx ?_)
 unfold unpack;have cM:(assignEach es X.env).length=aJ.toArray.size:=by simp[hn,<-hl,rv.length]
 rw[cM,om];refine zaa (zaz (TM (I.ok.hd hc) pl.isList λh' hx=>?_))
 have I1:aH X ah σ H {s with heap:=h' }:=I.eU (t':=s.toks) λb o e=>hx b o (zao (zaj e)) e
 exact h ah _ σ H xs _ Q I1 (by simpa using rv) hw
theorem TQ (S:c9 X F T fr sc)(hc:X.d9=true)(hi:PI X target dS wi)
  (hg:∀C fp s H xe,PG (pK X (F++T) sc C fp s H xe) target g) (MV:∀C fp s H xe,Fc (pK X (F++T) sc C fp s H xe) qL ti) (he:∀C fp s H xe,PE (pK X (F++T) sc C fp s H xe) yz te)
  (hN:X.N.Nodup) (hiy:X.N[i0]? = some y) (hly:X.env.scope.names.lookup y=some .local) (hex:X.ex=[])
  (TR:swapsWith (.ListComp yz [⟨target,dS,qL,0⟩] sc pos) (some (.Name y py)) abG.line X.env=pure true:=by rfl) (hs:∀x,foldedSetIterable dS X.env x=pure x:=by intro _;rfl):PS X (.Assign [.Name y py] (.ListComp yz [⟨target,dS,qL,0⟩] sc pos) abG) (Si (Hr wi fr T g ti te) (G6 i0)):=by
 intro ah s σ H DD I h;rw[exec_Assign_Name_used _ _ _ _ TR];refine zaa (zcx (zaa ?_))
 show wpAny _ X.A (do let _ <-comprehension (.ListComp yz [⟨target,dS,qL,0⟩] sc pos) sc X.env _ (newList []) false (eval dS X.env) (some (assign (.Name y py) X.env))) _ _ s
 refine zaa (zaO (B9 (use:=some (assign (.Name y py) X.env)) (QQ:=λ_ s'=>SP X ah DD .next s') S hc hi hg MV he hs I h λD C fp s3 s7 H3 H6 xe Mf I3 f3 Tp I7 qn=>?_) (λ_ s' hq=>zac (zac hq)) λ_ _ e=>e)
 obtain⟨m7,hn7,_⟩:=I7.BL;have hCn:H6 C=none:=I7.free
 have I8:aH X ah σ H6 s7:=I3.G3 (s':=s7) (H':=H6) (ch:=fp) I7.os I7.base I7.bZ I7.iX λb hb=>by
  obtain⟨_,q1,_,q2,q3,q4⟩:=f3 b hb;exact⟨q2,q1,q3,q4⟩
 have Cge:X.s₀.heap.objs.size<=C:=by rw[<-Tp];exact I3.sz
 have CL:C≠X.env.locals:=λz=>by
  have:=I3.lt
  rw[<-z,<-Tp] at this;exact zaY _ this
 have CC:∀z c,X.env.cells.lookup z=some c->c≠C:=λz c e q=>by
  obtain⟨v,hv⟩:=I3.cell z c e
  have:=hv.lt
  rw[q,<-Tp] at this;exact zaY _ this
 have CP:∀p∈X.pn++ah,p.1≠C:=λp hp q=>by
  have:=zaj (I3.Es p hp).1
  rw[q,<-Tp] at this;exact zaY _ this
 show wpAny _ X.A (assign (.Name y py) X.env (.ref D)) _ _ s7
 refine wpAny_assign_Name (yd I8 hN hiy (.inl hly) (v:=.ref D) rfl (λs8 I9 sb=>?_) (.inr hly))
 obtain⟨a8,sb8,ha8⟩:=sb;have a8C:C≠a8:=by
  rcases ha8 with z|z
  ·rw[z];exact CL
  ·exact zbe (CC _ _ z)
 refine⟨m7,hn7.sameBut sb8 a8C,λh9 hs9=>⟨_,H6,?_,qn⟩⟩
 exact I9.oM (it:=C) (t':=s8.toks) (λb o nb e=>(hs9.2 b nb).trans e) hCn CL (.inr Cge) CC CP
end L2
namespace L2
open PySem PySem.Spec PyProof.Rows
noncomputable def l_ (C:Addr)(od:Option Addr)(t:Addr)(tb:Value):Obj:={cls:=.ref C,dict:=od,data:=.fields #[.ref t,tb,.none,.none,.bool false,.none]}
def xy (h:Heap)(T:Addr):Prop:=∃oT ts,h.get? T=some oT/\oT.data = .fields ts/\ts[3]? = some Value.none
section
variable {M:Model}{A:Around}{E:Value->Shared->Prop}{s:Shared}
structure Nc (S:List Addr) (a C t:Addr) (od:Option Addr) (h h':Heap) (T:Addr):Prop where
 j8:h'.get? a=some (l_ C od t (.ref T))
 tb:xy h' T
 new:h.objs.size<=T
 keep:∀b o,h.get? b=some o->b≠a->b∉S->h'.get? b=some o
 slot:∀b o,h.get? b=some o->b≠a->∃sl,h'.get? b=some {o with slots:=sl}
theorem yE 
  (JY:A.frames=some (env::outer)) (hl:s.heap.FunFrames base (env::outer)) (hf:env.frame=some L) (ha:s.heap.get? a=some (l_ C od t tb))
  (k:∀h' T,Nc ((env::outer).filterMap (·.frame)) a C t od s.heap h' T->Q () {s with heap:=h' }):
  wpAny M A (do let fr <-frameOf env;let pl <-entryPlaceOf L alI;let b <-EntryCells.newEntry head fr .none (rawInt L) .none pl;setField (.ref a) 1 b) (λ_ s'=>wpAny M A (setFlight (.ref a) none) Q E s') E s:=by
 have na:a∉(env::outer).filterMap (·.frame):=λhm=>by
  obtain⟨_,o,ho,hnf⟩:=hl.mem hm;rw[ha] at ho;cases ho;exact hnf _ rfl
 refine zaa (wpAny_frameOf_fun JY hl hf λg1 Cc=>zaa (wpAny_entryPlaceOf λpl hpl=>?_))
 unfold EntryCells.newEntry newFields;refine zaa (zaB ?_ (hpl.sizeOk5 _ _ _ _ _))
 have ha1:g1.get? a=some (l_ C od t tb):=(Cc.2.1 a na).trans ha
 generalize hts:([head,Value.ref L,Value.none,rawInt L,Value.none]++(if pl.isEmpty then List.replicate 6 Value.none else pl)).toArray=ts
 have h3:3<ts.size:=by rw[<-hts];simp only[zaq,zan,zas,zbm];omega
 have RV:(g1.push { cls:=.type "traceback",dict:=none,data:=.fields ts}).get? a=some (l_ C od t tb):=zab _ ha1
 have Ta:g1.objs.size≠a:=zbv (zaj ha1)
 refine zbr RV rfl (by show 1<6;decide) ?_
 have ha3:((g1.push { cls:=.type "traceback",dict:=none,data:=.fields ts}).update a (Obj.mapFields (·.setIfInBounds 1 (Value.ref g1.objs.size)))).get? a=some (l_ C od t (.ref g1.objs.size)):=by
  rw[zaA _ RV rfl];rfl
 have hT3:((g1.push { cls:=.type "traceback",dict:=none,data:=.fields ts}).update a (Obj.mapFields (·.setIfInBounds 1 (Value.ref g1.objs.size)))).get? g1.objs.size=some { cls:=.type "traceback",dict:=none,data:=.fields ts}:=
  (zaE _ _ (zbe Ta)).trans (zak g1 rfl)
 unfold setFlight;refine zaa (zay ha3 rfl (x:=.ref g1.objs.size) rfl ?_)
 rw[if_pos (show (Value.ref g1.objs.size != Value.none)=true from by simp)]
 refine zbr hT3 rfl h3 (k _ g1.objs.size ?_)
 have keep:∀b o,b≠a->g1.get? b=some o->(((g1.push { cls:=.type "traceback",dict:=none,data:=.fields ts}).update a (Obj.mapFields (·.setIfInBounds 1 (Value.ref g1.objs.size)))).update g1.objs.size
   (Obj.mapFields (·.setIfInBounds 3 ((none:Option Addr).elim Value.none λf=>rawInt f)))).get? b=some o:=λb o nb hb=>by
  have hbT:g1.objs.size≠b:=zbv (zaj hb)
  rw[zaE _ _ hbT,zaE _ _ (zbe nb)];exact zab _ hb
 refine⟨?_,⟨_,_,zaA _ hT3 rfl,rfl,by simp[h3]⟩,by rw[Cc.1];exact zaf _,λb o hb nb nS=>keep b o nb ((Cc.2.1 b nS).trans hb),λb o hb nb=>?_⟩
 ·rw[zaE _ _ Ta]
  exact ha3
 ·obtain⟨sl,hs⟩:=Cc.2.2 b o hb
  exact⟨sl,keep b _ nb hs⟩
theorem Cd 
  (JY:A.frames=some (env::outer)) (hl:s.heap.FunFrames base (env::outer)) (hf:env.frame=some L) (ha:s.heap.get? a=some (l_ C od t .none))
  (k:∀h' T,Nc ((env::outer).filterMap (·.frame)) a C t od s.heap h' T->Q () {s with heap:=h' }):wpAny M A (leaving env (.ref a)) Q E s:=by
 unfold leaving noteFrame;simp only[hf];refine zaa (zaa (zay ha rfl (x:=.none) rfl ?_))
 rw[if_neg (by decide)]
 exact yE JY hl hf ha k
theorem JZ 
  (JY:A.frames=some (env::outer)) (hl:s.heap.FunFrames base (env::outer)) (hf:env.frame=some L) (ha:s.heap.get? a=some (l_ C od t (.ref T))) (hT:xy s.heap T) (nT:T≠a)
  (k:∀h1 h' T',(∀b o,b≠T->s.heap.get? b=some o->h1.get? b=some o)->xy h1 T->h1.objs.size=s.heap.objs.size->Nc ((env::outer).filterMap (·.frame)) a C t od h1 h' T'->Q () {s with heap:=h' }):wpAny M A (noteFrame (.ref a) env) (λ_ s'=>wpAny M A (setFlight (.ref a) none) Q E s') E s:=by
 obtain⟨oT,ts,eT,dT,h3⟩:=hT;unfold noteFrame;simp only[hf];refine zaa (zay ha rfl (x:=.ref T) rfl ?_)
 rw[if_pos (show (Value.ref T != Value.none)=true from by simp)]
 refine zaa (zay eT dT h3 ?_)
 rw[if_neg (show ¬ ((Value.none == rawInt L)=true) from by simp[rawInt])]
 have sz:=(zcT.mp h3).1
 refine zaa (zbr eT dT sz ?_)
 have GZ:∀b o,b≠T->s.heap.get? b=some o->(s.heap.update T (Obj.mapFields (·.setIfInBounds 3 Value.none))).get? b=some o:=λb o nb e=>(zaE _ _ (zbe nb)).trans e
 have fT:(s.heap.update T (Obj.mapFields (·.setIfInBounds 3 Value.none))).get? T=some (Obj.mapFields (·.setIfInBounds 3 Value.none) oT):=zaA _ eT (zcL (zbx dT _))
 have RW:(s.heap.update T (Obj.mapFields (·.setIfInBounds 3 Value.none))).FunFrames base (env::outer):=hl.of_keeps λb o hb hnf=>⟨o,GZ b o (λq=>by rw[q,eT] at hb;cases hb;exact hnf ts dT) hb,rfl⟩
 refine yE (s:={s with heap:=s.heap.update T (Obj.mapFields (·.setIfInBounds 3 Value.none))}) JY RW hf (GZ a _ (zbe nT) ha) λh' T' lf=>k _ h' T' GZ ⟨_,_,fT,zbx dT _,by simp[sz]⟩ ?_ lf
 exact (zbg ..).1
end
theorem J0 (hh:A.handled=none)
  (h:wpAny M A x (λv s1=>∃(a t:Addr) (od:Option Addr) (nm q:Str) (C N:Addr) (bs bm:List Value) (xx:Bool) (sn:List Str) (sub:List Value) (ab:Bool) (ua:Option Bool) (dd:Option Addr) (k0 k1 k2 k3 k5:Option Value) (pN:String),v = .ref a /\
   bm.contains (.type "BaseException")=true/\s1.heap.get? C=some (excClassObj nm q C N bs bm xx sn sub ab ua dd k0 k1 k2 k3 k5 pN)/\s1.heap.get? a=some (k_ C od t)/\E (.ref a) s1) E s):wpAny M A (raiseStmt env (some x) none) Q E s:=by
 unfold raiseStmt;refine zaa (zaO h (λv s1 h1=>?_) λ_ _ z=>z)
 obtain⟨a,t,od,nm,q,C,N,bs,bm,xx,sn,sub,ab,ua,dd,k0,k1,k2,k3,k5,pN,rfl,hb,hC,ha,hE⟩:=h1;have hcb:(Value.ref C::bm).contains (.type "BaseException")=true:=by rw[zbK,hb,zdf]
 unfold k_ at ha;obtain⟨hp,g,d,tk,os⟩:=s1;repeat (first|with_reducible refine zbT ha ?_|with_reducible refine zbT hC ?_ | (with_reducible refine zcZ hC ?_;rw[hcb])|wp_step)
 exact wpAny_raiseNew_none hh hE
def uh (a C:Addr)(od:Option Addr)(T:Addr):HO:=.ext λh=>∃t:Addr,h.get? a=some (l_ C od t (.ref T))
noncomputable def TB (T:Addr):HO:=.ext λh=>xy h T
theorem Nd (e:h.get? a=some (l_ C od t (.ref T))):bP P w H h a (uh a C od T):=
 ⟨⟨t,e⟩,⟨_,e⟩,λh1 h2 bU k=>by obtain⟨t',e'⟩:=bU;exact⟨t',k _ e'⟩⟩
theorem Hw (e:xy h T):bP P w H h T (TB T):=by
 obtain⟨oT,ts,e1,e2,e3⟩:=id e;exact⟨e,⟨_,e1⟩,λh1 h2 dh k=>by obtain⟨o,ts',x1,x2,x3⟩:=dh;exact⟨o,ts',k _ x1,x2,x3⟩⟩
def xA (P:Program)(w:World):BV:=λouter H s E e s'=>∃(a T C:Addr) (od:Option Addr) (H':Hp),e = .ref a/\s'.os=s.os/\AllBare s'.gens/\Un (sP outer) [] H H' s.heap s'.heap/\nV P w H' s'.heap /\
 H' a=some (uh a C od T)/\H' T=some (TB T)/\T≠a/\E (.ref C) (some a) H'
def abJ (K:PySem.W.Frag)(E:XK)(te:TE):TS:=λ_ σ H=>te σ H λv H1=>∃(a C f:Addr) (bm:List Value) (od:Option Addr),v = .ref a/\H1 a=some (EO a C od)/\sU K C f bm /\
 ∀T,H1 T=none->T≠a->E (.ref C) (some a) (bf (bf H1 a (uh a C od T)) T (TB T))
section
variable {P:Program}{w:World}{K:PySem.W.Frag}{mg:Str->Option Value}{base:Heap}{N:List Str}{bY:Str}{scope:Scope}{f:Addr}{fG:Value}{A:Around}{outer:List Env}{s₀:Shared}{H₀:Hp}{E:XK}
theorem TU (I:aH (jC (xA P w) P w K mg base N bY scope f fG A outer s₀ H₀ E) ah σ H s)(ha:∃ φ,H a=some (.ext φ))(Ta:T≠a)
  (Lf:Nc (sP ((jC (xA P w) P w K mg base N bY scope f fG A outer s₀ H₀ E).env::outer)) a C t od s.heap h' T):
  Un (sP outer) [] H₀ (bf (bf H a (uh a C od T)) T (TB T)) s₀.heap h'/\nV P w (bf (bf H a (uh a C od T)) T (TB T)) h':=by
 obtain⟨φ,ha⟩:=ha;have hT:H T=none:=I.bZ.fresh Lf.new
 have lt:∀b o,s₀.heap.get? b=some o->b<s₀.heap.objs.size:=λb o e=>zaj e
 have sz:s₀.heap.objs.size<=s.heap.objs.size:=I.sz
 have bT:∀b o,s₀.heap.get? b=some o->b≠T:=λb o e=>zao (zap (lt b o e) (zah sz Lf.new))
 have nf:∀b o,s₀.heap.get? b=some o->b∉sP outer->b∉sP ((jC (xA P w) P w K mg base N bY scope f fG A outer s₀ H₀ E).env::outer):=λb o e nb z=>by
  have z':b∈((jC (xA P w) P w K mg base N bY scope f fG A outer s₀ H₀ E).env::outer).filterMap (·.frame):=z
  rw[zcW] at z';have:b=s₀.heap.objs.size\/b∈sP outer:=by
   have z2:b∈s₀.heap.objs.size::outer.filterMap (·.frame):=z'
   exact zam.mp z2
  rcases this with q|q
  ·exact absurd (lt b o e) (by rw[q];exact zaY _)
  ·exact nb q
 have U:=I.base;refine⟨⟨λb o e n1 n2 n3=>?_,λb o e n1 n2 n3=>?_,λb o e n1 n2=>?_,λb o e n2=>?_,λb xs e=>?_,λb o u e=>?_,λb ps e=>?_⟩,λb u e=>?_⟩
 ·have e1:=U.keep b o e n1 n2 n3
  have nb:b≠a:=λz=>by
   have:=U.free b o e n1 n3
   rw[z,ha] at this;cases this
  exact Lf.keep b o e1 nb (nf b o e n2)
 ·obtain⟨sl,e1⟩:=U.slot b o e n1 n2 n3
  have nb:b≠a:=λz=>by
   have:=U.free b o e n1 n3
   rw[z,ha] at this;cases this
  obtain⟨ME,e2⟩:=Lf.slot b _ e1 nb;exact⟨ME,e2⟩
 ·have e1:=U.free b o e n1 n2
  have nb:b≠a:=λz=>by rw[z,ha] at e1;cases e1
  rw[av (bT b o e),av nb];exact e1
 ·obtain⟨o',e1⟩:=U.there b o e n2
  by_cases z:b=a
  ·rw[z];exact⟨_,Lf.j8⟩
  ·obtain⟨sl,e2⟩:=Lf.slot b o' e1 z
   exact⟨_,e2⟩
 ·have e1:=U.xh b xs e
  have nb:b≠a:=λz=>by rw[z,ha] at e1;cases e1
  have nT:b≠T:=λz=>by rw[z,hT] at e1;cases e1
  rw[av nT,av nb];exact e1
 ·have e1:=U.tG b o u e
  have nb:b≠a:=λz=>by rw[z,ha] at e1;cases e1
  have nT:b≠T:=λz=>by rw[z,hT] at e1;cases e1
  rw[av nT,av nb];exact e1
 ·obtain⟨jR,e1⟩:=U.xj b ps e
  have nb:b≠a:=λz=>by rw[z,ha] at e1;cases e1
  have nT:b≠T:=λz=>by rw[z,hT] at e1;cases e1
  exact⟨jR,by rw[av nT,av nb];exact e1⟩
 ·by_cases zT:b=T
  ·subst zT
   rw[aq] at e;cases e;exact Hw Lf.tb
  ·rw[av zT] at e
   by_cases za:b=a
   ·subst za
    rw[aq] at e;cases e;exact Nd Lf.j8
   ·rw[av za] at e
    have free:∀c,c∈sP ((jC (xA P w) P w K mg base N bY scope f fG A outer s₀ H₀ E).env::outer)->H c=none:=λc hc=>I.BW.L1 c hc
    refine (I.bZ b u e).sD (λc v hc q=>?_) (λc hc=>?_) (λc xs hc=>?_)
    ·have hcn:∃uu,H c=some uu/\c≠a:=by
      rcases hc with z|z
      ·exact⟨u,by rw[z];exact e,by rw[z];exact za⟩
      ·exact⟨_,z,λq=>by rw[q,ha] at z;cases z⟩
     obtain⟨uu,h1,h2⟩:=hcn;refine Lf.keep c v q h2 λz=>?_
     rw[free c z] at h1;cases h1
    ·have nb:c≠a:=λz=>by rw[z,ha] at hc;cases hc
     have nT:c≠T:=λz=>by rw[z,hT] at hc;cases hc
     rw[av nT,av nb];exact hc
    ·have nb:c≠a:=λz=>by rw[z,ha] at hc;cases hc
     have nT:c≠T:=λz=>by rw[z,hT] at hc;cases hc
     rw[av nT,av nb];exact hc
theorem Nf (he:PE (jC (xA P w) P w K mg base N bY scope f fG A outer s₀ H₀ E) ex te):
  PS (jC (xA P w) P w K mg base N bY scope f fG A outer s₀ H₀ E) (.Raise (some ex) none pos) (abJ K E te):=by
 intro ah s σ H D I h;rw[arm_exec_Raise];refine zaa (zcx (J0 (I.ok.hd rfl) ?_))
 refine zaa (zaO (he ah s σ H _ I h) (λv s1 yy=>zaa (zcx (zac ?_))) λ_ _ z=>z)
 obtain⟨y,H1,I1,r,a,C,g,bm,od,ey,ha,Mk,q⟩:=yy;subst ey
 cases (show v=Value.ref a from r)
 obtain⟨nm,qn,N',bs,sn,sub,ab,ua,dd,k0,k1,k2,k3,k5,lk⟩:=Mk.j8;obtain⟨B,eb⟩:=Mk.nb;obtain⟨t,ea⟩:=M4 I1 ha;have hb:bm.contains (.type "BaseException")=true:=by
  rw[eb,zbK];have:sS.contains (.type "BaseException")=true:=by decide +kernel
  rw[this,zdf]
 refine⟨a,t,od,nm,qn,C,N',bs,bm,true,sn,sub,ab,ua,dd,k0,k1,k2,k3,k5,"ValueError.__new__",rfl,hb,I1.kT _ _ lk,ea,?_⟩
 refine Cd (base:=base) (env:=(jC (xA P w) P w K mg base N bY scope f fG A outer s₀ H₀ E).env) (outer:=outer) I1.ok.frames I1.BW.mD rfl (show s1.heap.get? a=some (l_ C od t .none) from ea) λh' T Lf=>?_
 have Ta:T≠a:=zbv (zap (zaj ea) Lf.new)
 obtain⟨un,bZ⟩:=TU I1 ⟨_,ha⟩ Ta Lf
 exact⟨a,T,C,od,_,rfl,I1.os,I1.iX,un,bZ,by rw[av Ta.symm];exact aq,aq,Ta,q T (I1.bZ.fresh Lf.new) Ta⟩
theorem LJ.okX {st:Stmt}(F:LJ K x bY st f fd)(S:au N ps (aj st))(len:∀vs H Q E,sp vs H Q E->vs.length=ps.length)
  (tV:∀(fG:Value) (A:Around) (outer:List Env) (s:Shared) (H:Hp) (vs:List V) (Q:VK) (E:XK),gU k (A.deeper (envOfC bY (aj st) s.heap.objs.size f fG))->sp vs H Q E ->
   ∃t,yf (jC (xA P w) P w K mg base N bY (aj st) f fG A outer s H E) (cT st) t/\t {nx:=λ_ H'=>Q .bq H',rt:=Q} (cW N vs) H):aP P w K mg base (xA P w) (k+1) f fd ps sp:=by
 obtain⟨oc,od,kV,oO,pm,an,fG,ct,E4,rfl,lk,BQ⟩:=F.ex;exact Mt lk BQ S len λA outer s H vs Q E hr LH=>tV fG A outer s H vs Q E hr LH
end
theorem aH.Ng (I:aH X ah σ H s)(ha:H a=some (uh a C od T))(hT:H T=some (TB T))(Ta:T≠a)(Ta':T'≠a)(k1:∀b o,b≠T->s.heap.get? b=some o->h1.get? b=some o)(tb1:xy h1 T)(z1:h1.objs.size=s.heap.objs.size)
  (Lf:Nc (sP X.dc) a C t od h1 h' T'):aH X ah σ (bf (bf H a (uh a C od T')) T' (TB T')) {s with heap:=h' }:=by
 have nT':H T'=none:=I.bZ.fresh (by rw[<-z1];exact Lf.new)
 have free:∀c,c∈sP X.dc->H c=none:=λc hc=>I.BW.L1 c hc
 have TS:T∉sP X.dc:=λz=>by rw[free T z] at hT;cases hT
 have aS:a∉sP X.dc:=λz=>by rw[free a z] at ha;cases ha
 have bT':∀b o,s.heap.get? b=some o->b≠T':=λb o e=>zao (zap (zaj e) (by rw[<-z1];exact Lf.new))
 have ne:∀{b},H b=none->b≠a/\b≠T:=λ{b} n=>⟨λz=>(by rw[z,ha] at n;cases n),λz=>(by rw[z,hT] at n;cases n)⟩
 have tb':xy h' T:=by
  obtain⟨oT,ts,e1,e2,e3⟩:=tb1;exact⟨oT,ts,Lf.keep T oT e1 Ta TS,e2,e3⟩
 have ex:∀{b u},H b=some u->(∀ φ,u ≠ .ext φ)->bf (bf H a (uh a C od T')) T' (TB T') b=some u:=λ{b u} e n=>by
  have nb:b≠a:=λz=>by rw[z,ha] at e;exact n _ (zaw e).symm
  have nt:b≠T':=λz=>by rw[z,nT'] at e;cases e
  rw[av nt,av nb];exact e
 refine I.G3 (s':={s with heap:=h' }) (ch:=[]) rfl ⟨λb o e n1 n2 n3=>?_,λb o e n1 n2 n3=>?_,λb o e n1 n2=>?_,λb o e n2=>?_,λb xs e=>ex e (λφ z=>by cases z),λb o u e=>ex e (λφ z=>by cases z),λb ps e=>⟨#[],by rw[ex e (λφ z=>by cases z)];simp⟩⟩ (λb u e=>?_) I.iX (λb z=>absurd z (by simp))
 ·exact Lf.keep b o (k1 b o (ne n1).2 e) (ne n1).1 n2
 ·exact Lf.slot b o (k1 b o (ne n1).2 e) (ne n1).1
 ·rw[av (bT' b o e),av (ne n1).1]
  exact n1
 ·by_cases za:b=a
  ·rw[za];exact⟨_,Lf.j8⟩
  ·by_cases zT:b=T
   ·rw[zT]
    obtain⟨oT,ts,e1,_⟩:=tb';exact⟨oT,e1⟩
   ·obtain⟨sl,e2⟩:=Lf.slot b o (k1 b o zT e) za
    exact⟨_,e2⟩
 ·by_cases zT':b=T'
  ·subst zT'
   rw[aq] at e;cases e;exact Hw Lf.tb
  ·rw[av zT'] at e
   by_cases za:b=a
   ·subst za
    rw[aq] at e;cases e;exact Nd Lf.j8
   ·rw[av za] at e
    by_cases zT:b=T
    ·subst zT
     rw[hT] at e;cases e;exact Hw tb'
    ·refine (I.bZ b u e).sD (λc v hc q=>?_) (λc hc=>ex hc (λφ z=>by cases z)) (λc xs hc=>ex hc (λφ z=>by cases z))
     have hcn:∃uu,H c=some uu/\c≠a/\c≠T:=by
      rcases hc with z|z
      ·exact⟨u,by rw[z];exact e,by rw[z];exact za,by rw[z];exact zT⟩
      ·exact⟨_,z,λq=>(by rw[q,ha] at z;cases z),λq=>(by rw[q,hT] at z;cases z)⟩
     obtain⟨uu,g1,g2,g3⟩:=hcn;exact Lf.keep c v (k1 c v g3 q) g2 λz=>by rw[free c z] at g1;cases g1
noncomputable def Cx.mU (X:Cx)(a:Addr):Cx:={X with A:=X.A.mark (some (.ref a)),d9:=false}
theorem aH.mU (I:aH X ah σ H s)(a:Addr):aH (X.mU a) ah σ H s:=
 ⟨⟨I.ok.tK,I.ok.kind,I.ok.tH,I.ok.WH,I.ok.above,I.ok.inj,I.ok.has,I.ok.cab,λh=>absurd (show false=true from h) zai,I.ok.frames,I.ok.stk,I.ok.exf,I.ok.bs,I.ok.RJ,I.ok.jA,I.ok.EL,I.ok.mD,I.ok.L1⟩,I.os,I.iX,I.base,I.BL,I.cell,I.free,I.lZ,I.Es,I.bZ,I.len⟩
theorem aH.pO {a:Addr}(I:aH (X.mU a) ah σ H s)(hd:X.d9=true->X.A.handled=none):aH X ah σ H s:=
 ⟨⟨I.ok.tK,I.ok.kind,I.ok.tH,I.ok.WH,I.ok.above,I.ok.inj,I.ok.has,I.ok.cab,hd,I.ok.frames,I.ok.stk,I.ok.exf,I.ok.bs,I.ok.RJ,I.ok.jA,I.ok.EL,I.ok.mD,I.ok.L1⟩,I.os,I.iX,I.base,I.BL,I.cell,I.free,I.lZ,I.Es,I.bZ,I.len⟩
section
variable {X:Cx}{k:Nat}{g B:Addr}{fd:FuncData}{ps:List Str}{sp:Sp}{e:Expr}{es:List Expr}{t:TA}{x y n fn cB:Str}{i j l:Nat}{xp p cp ap np yp np2 bp hp pos:Pos}
 {RX q':Str} {N':Addr} {RY:List Value} {ow:Bool} {RZ:List Str} {xB:List Value} {R0:Bool} {xC:Option Bool} {BE:Option Addr} {j0 j1 j2 j3 j5:Option Value} {jT:String}
end
end L2
namespace L2
open PySem PySem.Spec PyProof.Rows
theorem at0 {α:Type}{a:α}{xs:List α}:jG (a::xs) 0=some a:=h_ (j:=0) rfl
theorem at1 {α:Type}{a b:α}{xs:List α}:jG (a::b::xs) 1=some b:=h_ (j:=1) rfl
theorem at2 {α:Type}{a b c:α}{xs:List α}:jG (a::b::c::xs) 2=some c:=h_ (j:=2) rfl
theorem at3 {α:Type}{a b c d:α}{xs:List α}:jG (a::b::c::d::xs) 3=some d:=h_ (j:=3) rfl
theorem at4 {α:Type}{a b c d e:α}{xs:List α}:jG (a::b::c::d::e::xs) 4=some e:=h_ (j:=4) rfl
theorem at5 {α:Type}{a b c d e f:α}{xs:List α}:jG (a::b::c::d::e::f::xs) 5=some f:=h_ (j:=5) rfl
theorem at6 {α:Type}{a b c d e f g:α}{xs:List α}:jG (a::b::c::d::e::f::g::xs) 6=some g:=h_ (j:=6) rfl
theorem at7 {α:Type}{a b c d e f g h:α}{xs:List α}:jG (a::b::c::d::e::f::g::h::xs) 7=some h:=h_ (j:=7) rfl
theorem lg (ha:H a=none)(hb:H b=some x):bf H a o b=some x:=by rw[av (fK hb ha)];exact hb
noncomputable abbrev Ev:=St->Hp->Option V
section
variable {X:Cx}{a b c:Expr}{ea eb ec:Ev}{pos Nh:Pos}
variable {dg:List Expr}
end
theorem Ni (hc:X.d9=true):ig X (.builtin "sum") (λxs H Q=>∃(l:Addr) (ns:List Int),xs=[.ref l]/\jy X.K H l (ns.map V.int)/\Q (.int ns.sum) H):=by
 intro ah s σ H xs us Q I r h;obtain⟨l,ns,rfl,hl,q⟩:=h;obtain⟨u,rfl,ru⟩:=j9 r;cases ru;obtain⟨aJ,r2,pl,_⟩:=I.list hl;have hi:=E7 r2;obtain⟨ys,e⟩:=hi.allInts.items;have e2:numsOf aJ=ns:=hi.numsOf
 have WY:=pl.isList;rw[e] at WY;refine sum_intListG (I.ok.hd hc) WY λh' tk t' kp=>⟨.int ns.sum,H,I.eU kp,⟨t',?_⟩,q⟩
 have e3:numsOf (intItems ys).toList=ns:=by rw[<-e];exact e2
 rw[nums_intItems] at e3;rw[preSum_eq,zbd (by simp),e3]
inductive DV where
 |fl (v:V)
 |tp (l:List DV)
 |ls (l:List DV)
mutual
noncomputable def iw (K:PySem.W.Frag)(H:Hp):DV->V->Prop
 |.fl w,v=>v=w/\jH w=true
 |.tp l,v=>∃a xs,v = .ref a/\pA K H a xs/\kr K H l xs
 |.ls l,v=>∃a xs,v = .ref a/\jy K H a xs/\kr K H l xs
noncomputable def kr (K:PySem.W.Frag)(H:Hp):List DV->List V->Prop
 |[],xs=>xs=[]
 |d::l,xs=>∃x r,xs=x::r/\iw K H d x/\kr K H l r
end
mutual
noncomputable def DV.yF:DV->Nat
 |.fl _=>0
 |.tp l=>DV.Cf l+1
 |.ls l=>DV.Cf l+1
noncomputable def DV.Cf:List DV->Nat
 |[]=>0
 |d::l=>max (DV.yF d) (DV.Cf l)
end
theorem Nj (h:jH w=true):Ho w w=true:=by
 cases w with
 |bq=>rfl
 |bl b=>simp[Ho]
 |int i=>simp[Ho]
 |str z=>simp[Ho]
 |_=>exact absurd (show false=true from h) zai
theorem dX (n:Nat):(List.range n).all (λ_=>true)=true:=by simp
mutual
theorem J1 (I:aH X ah σ H s):∀(d:DV) (A:Around) (x y:V) (v u:Value),iw X.K H d x->iw X.K H d y->bI x v->bI y u->A.units+d.yF<cLine->SeqAt.EqAt A s v u true
 |.fl w,A,x,y,v,u,hx,hy,rx,ry,_=>by
  unfold iw at hx hy;obtain⟨rfl,fw⟩:=hx;obtain⟨rfl,_⟩:=hy;have h:=MH (A:=A) (s:=s) rx ry fw fw
  rw[Nj fw] at h;exact h
 |.tp l,A,x,y,v,u,hx,hy,rx,ry,hd=>by
  unfold iw at hx hy;obtain⟨a,xs,rfl,sx,dx⟩:=hx;obtain⟨b,ys,rfl,sy,dy⟩:=hy;cases rx;cases ry;obtain⟨aJ,r1,p1,_⟩:=I.fY sx;obtain⟨fZ,r2,p2,_⟩:=I.fY sy;unfold DV.yF at hd;obtain⟨hl,he⟩:=gr I l A.in1 xs ys aJ fZ dx dy r1 r2 (by show A.units+1+_<_;omega)
  by_cases hab:a=b
  ·subst hab;exact zeD _
  ·refine zfy hab ?_
   have h:=SeqAt.RcAt.tuples (A:=A) (e:=λ_=>true) p1 p2 (by omega) λj h1 h2=>he j _ _ (by simpa using zag (by simpa using h1)) (by simpa using zag (by simpa using h2))
   rw[dX,show (aJ.toArray.size == fZ.toArray.size)=true by simpa using hl] at h
   exact h
 |.ls l,A,x,y,v,u,hx,hy,rx,ry,hd=>by
  unfold iw at hx hy;obtain⟨a,xs,rfl,sx,dx⟩:=hx;obtain⟨b,ys,rfl,sy,dy⟩:=hy;cases rx;cases ry;obtain⟨aJ,r1,p1,_⟩:=I.list sx;obtain⟨fZ,r2,p2,_⟩:=I.list sy;unfold DV.yF at hd;obtain⟨hl,he⟩:=gr I l A.in1 xs ys aJ fZ dx dy r1 r2 (by show A.units+1+_<_;omega)
  by_cases hab:a=b
  ·subst hab;exact zeD _
  ·refine zfy hab ?_
   have h:=SeqAt.RcAt.lists (A:=A) (e:=λ_=>true) p1.isList p2.isList (by simpa using hl) (by omega) λj h1 h2=>he j _ _ (by simpa using zag (by simpa using h1)) (by simpa using zag (by simpa using h2))
   rw[dX] at h;exact h
theorem gr (I:aH X ah σ H s):∀(l:List DV) (A:Around) (xs ys:List V) (us ws:List Value),kr X.K H l xs->kr X.K H l ys->bE xs us->bE ys ws->A.units+DV.Cf l<cLine ->
  us.length=ws.length/\∀(j:Nat) (u w:Value),us[j]? = some u->ws[j]? = some w->SeqAt.EqAt A s u w true
 |[],A,xs,ys,us,ws,hx,hy,rx,ry,_=>by
  unfold kr at hx hy;subst hx hy;cases rx;cases ry;exact⟨rfl,λj u w h=>by simp at h⟩
 |d::l,A,xs,ys,us,ws,hx,hy,rx,ry,hd=>by
  unfold kr at hx hy;obtain⟨x,r,rfl,dx,dr⟩:=hx;obtain⟨y,r',rfl,dy,dr'⟩:=hy;cases rx with
  |cons r1 t1 =>
   cases ry with
   |cons r2 t2 =>
    unfold DV.Cf at hd;obtain⟨hl,he⟩:=gr I l A r r' _ _ dr dr' t1 t2 (by omega)
    refine⟨by simp[hl],λj u w h1 h2=>?_⟩
    cases j with
    |zero =>
     simp only[zaX,zbU] at h1 h2;subst h1 h2;exact J1 I d A x y _ _ dx dy r1 r2 (by omega)
    |succ j =>
     simp only[zaL] at h1 h2;exact he j u w h1 h2
end
def ah8 (K:PySem.W.Frag)(neg:Bool):R2:=λx y H Q=>∃d:DV,DV.yF d<=50/\(∀w,d ≠ .fl w)/\iw K H d x/\iw K H d y/\Q (.bl (!neg)) H
theorem abK (hu:X.A.units+100<cLine):kU X (compareOp .Eq) (ah8 X.K false):=by
 intro ah s σ H x y v u Q I rx ry h;obtain⟨d,hd,hn,dx,dy,q⟩:=h;have fP:EP X ah σ Q (.bool true) s:=⟨.bl true,H,I,rfl,q⟩
 cases d with
 |fl w=>exact absurd rfl (hn w)
 |tp l =>
  unfold iw at dx dy;obtain⟨a,xs,rfl,sx,dx⟩:=dx;obtain⟨b,ys,rfl,sy,dy⟩:=dy;cases rx;cases ry;obtain⟨aJ,r1,p1,_⟩:=I.fY sx;obtain⟨fZ,r2,p2,_⟩:=I.fY sy;unfold DV.yF at hd;obtain⟨hl,he⟩:=gr I l X.A.in1 xs ys aJ fZ dx dy r1 r2 (by show X.A.units+1+_<_;omega)
  refine SeqAt.eq_tupleAt (e:=λ_=>true) p1 p2 (by omega) (λj h1 h2=>he j _ _ (by simpa using zag (by simpa using h1)) (by simpa using zag (by simpa using h2))) ?_
  rw[dX,show (aJ.toArray.size == fZ.toArray.size)=true by simpa using hl]
  exact fP
 |ls l =>
  unfold iw at dx dy;obtain⟨a,xs,rfl,sx,dx⟩:=dx;obtain⟨b,ys,rfl,sy,dy⟩:=dy;cases rx;cases ry;obtain⟨aJ,r1,p1,_⟩:=I.list sx;obtain⟨fZ,r2,p2,_⟩:=I.list sy;unfold DV.yF at hd;obtain⟨hl,he⟩:=gr I l X.A.in1 xs ys aJ fZ dx dy r1 r2 (by show X.A.units+1+_<_;omega)
  refine SeqAt.eq_listAt (e:=λ_=>true) p1.isList p2.isList (by simpa using hl) (by omega) (λj h1 h2=>he j _ _ (by simpa using zag (by simpa using h1)) (by simpa using zag (by simpa using h2))) ?_
  rw[dX];exact fP
theorem abL (hu:X.A.units+100<cLine):kU X (compareOp .NotEq) (ah8 X.K true):=by
 intro ah s σ H x y v u Q I rx ry h;obtain⟨d,hd,hn,dx,dy,q⟩:=h;have fP:EP X ah σ Q (.bool false) s:=⟨.bl false,H,I,rfl,q⟩
 cases d with
 |fl w=>exact absurd rfl (hn w)
 |tp l =>
  unfold iw at dx dy;obtain⟨a,xs,rfl,sx,dx⟩:=dx;obtain⟨b,ys,rfl,sy,dy⟩:=dy;cases rx;cases ry;obtain⟨aJ,r1,p1,_⟩:=I.fY sx;obtain⟨fZ,r2,p2,_⟩:=I.fY sy;unfold DV.yF at hd;obtain⟨hl,he⟩:=gr I l X.A.in1 xs ys aJ fZ dx dy r1 r2 (by show X.A.units+1+_<_;omega)
  have h:=SeqAt.RcNeAt.tuples (e:=λ_=>true) p1 p2 (show X.A.units<cLine by omega) λj h1 h2=>he j _ _ (by simpa using zag (by simpa using h1)) (by simpa using zag (by simpa using h2))
  rw[dX,show (aJ.toArray.size == fZ.toArray.size)=true by simpa using hl] at h
  exact h X.prog X.w _ _ fP
 |ls l =>
  unfold iw at dx dy;obtain⟨a,xs,rfl,sx,dx⟩:=dx;obtain⟨b,ys,rfl,sy,dy⟩:=dy;cases rx;cases ry;obtain⟨aJ,r1,p1,_⟩:=I.list sx;obtain⟨fZ,r2,p2,_⟩:=I.list sy;unfold DV.yF at hd;obtain⟨hl,he⟩:=gr I l X.A.in1 xs ys aJ fZ dx dy r1 r2 (by show X.A.units+1+_<_;omega)
  have h:=SeqAt.RcNeAt.lists (e:=λ_=>true) p1.isList p2.isList (by simpa using hl) (show X.A.units<cLine by omega) λj h1 h2=>he j _ _ (by simpa using zag (by simpa using h1)) (by simpa using zag (by simpa using h2))
  rw[dX] at h;exact h X.prog X.w _ _ fP
end L2
namespace L2
open PySem PySem.Spec PyProof.Rows
end L2
namespace L2
open PySem PySem.Spec PyProof.Rows
end L2
namespace My
open PySem L2
end My
namespace My
open PySem L2
end My
namespace L2
open PySem
theorem Nk (hc:X.d9=true):ig X (.builtin "any") (λxs H Q=>∃(l:Addr) (bs:List Bool),xs=[.ref l]/\H l=some (.bD (bs.map V.bl))/\Q (.bl (bs.any id)) H):=by
 intro ah s σ H xs us Q I r h;obtain⟨l,bs,rfl,hl,q⟩:=h;obtain⟨u,rfl,ru⟩:=j9 r;cases ru;obtain⟨aJ,n,rv,e,_⟩:=I.bD hl;have ah9:s.heap.IsList l aJ.toArray:=⟨_,e,rfl,n,rfl⟩
 refine call_any_walk (zbS ah9 ?_)
 have o_:l≠s.heap.objs.size:=zao (zaj e)
 have cM:aJ.length=bs.length:=by rw[<-rv.length];simp
 refine⟨s.heap.objs.size,_,_,_,_,_,λi=>bs[i]?.getD true,rfl,Walks.list (by exact I.ok.hd hc) s.heap.objs.size l o_ aJ.toArray,⟨⟨_,zak _ rfl,rfl,rfl⟩,⟨_,zab _ e,rfl,n,rfl⟩⟩,?_,?_⟩
 ·intro i v s' Q' E' hv hq
  have hv:aJ[i]? = some v:=by simpa using hv
  have hi:i<bs.length:=by rw[<-cM];exact (zae.mp hv).1
  obtain⟨u,hu,ru⟩:=rv.get (i:=i) (x:=V.bl bs[i]) (by simp[hi])
  rw[hv] at hu;have e1:v=u:=zaw hu
  subst e1;cases (show v=Value.bool bs[i] from ru)
  refine zbh ?_
  have e2:bs[i]?.getD true=bs[i]:=by simp[hi]
  have hq:Q' (bs[i]?.getD true) s':=hq
  rw[e2] at hq;exact hq
 ·intro h' tk hk
  refine⟨.bl (bs.any id),H,I.eU λb o e'=>hk b o (by simp;exact zao (zaj e')) (zab _ e'),?_,q⟩
  show Value.bool _=Value.bool _
  congr 1
  rw[zaq,cM];rw[zbu,zcs,zcs];constructor
  ·rintro⟨i,hi,hb⟩
   have hi:=zeR.mp hi;rw[zag hi] at hb;exact⟨_,zcQ hi,hb⟩
  ·rintro⟨b,hb,hbt⟩
   obtain⟨i,hi,e⟩:=zfe.mp hb;refine⟨i,zeR.mpr hi,?_⟩
   rw[zag hi,Option.getD_some,e];exact hbt
section
variable {α:Type}{H H':Hp}{o:α -> HO}{as:List Addr}{xs:List α}
end
end L2
namespace L2
open PySem PySem.Spec PyProof.Rows
theorem Cg (hd:(d == sysModules)=false)(ho:s.heap.get? d=some o)(hc:o.ExactDict)(Ci:o.data = .dict es ep)
  (hQ:Q (.ref s.heap.objs.size) { s with heap:=s.heap.push { cls:=.type "dict_keyiterator",data:=.fields #[.ref d,.int 0 0,.int es.size 0,.int ep 0]} }):wpAny (model prog w) A (pyIter (.ref d)) Q E s:=by
 have hT:s.TypeIs (.ref d) "dict" := ⟨o,ho,hc.1⟩
 refine zeb hT F.slot_dict_iter (zaF F.slot_dict_iter hT F.entry_dict_iter ?_ (F.args_dict_iter_1 _))
 unfold Builtin.«dict.__iter__» Builtin.Dict.dictSlotNone
 refine zaa (zaa (wpAny_notOrdered_dict hT (zac (?_:wpAny _ _ (Builtin.Dict.showsAll d >>= _) _ _ s))))
 unfold Builtin.Dict.showsAll;rw[if_neg (by rw[hd];exact zai)]
 refine zaa (zac (zaa (zec ho Ci (zaa (zeH ho Ci (zaa (zaB (zac ⟨_,rfl,"dict_keyiterator",_,⟨_,zak _ rfl,rfl⟩,zbA.lookup,?_⟩)))))))) 
 simpa[rawInt] using hQ
theorem Nl (Ey:s.heap.IsKeyIter it d i es.size ep)(sQ:s.heap.get? d=some o)(Ci:o.data = .dict es ep)(jD:i<es.size)
  (hQ:∀h',h'.IsKeyIter it d (i+1) es.size ep->Heap.SameBut it s.heap h'->Q (some es[i].key) {s with heap:=h' }):wpAny (model prog w) A (pyNext (.ref it)) Q E s:=by
 obtain⟨oi,hoi,hci,hdi⟩:=id Ey;unfold pyNext;refine zaa (zcz (zaH (name:=Str.ofString "__next__") Ey.typeIs zbA
  (zaF zbA Ey.typeIs zdF (zaa (zac (zaa (zaa ?_)))) (zdD _))))
 first|refine zaa (zbV Ey.typeIs (zac ?_))|refine zaa (dQ Ey.typeIs (zac ?_))
 refine zaa (zdN hoi hdi ?_)
 simp only[(by decide:Builtin.Dict_items.ownsTuple "dict_keyiterator"=false),zaC,if_false]
 show wpAny _ _ (if (Value.ref d == Value.none)=true then _ else _) _ _ s
 rw[if_neg (show ¬ ((Value.ref d == Value.none)=true) from zai)];refine zaa (zac (zaa (zec sQ Ci ?_)))
 rw[if_neg (by simp)]
 refine zaa (zac (zaa (zeH sQ Ci ?_)))
 rw[if_neg (by simp)]
 refine zac ?_
 simp only[show ¬ ((i:Int)<0) from by omega,if_false,zbs,zco jD]
 refine zaa ?_
 first|refine zaa (zbV Ey.typeIs (zac ?_))|refine zaa (dQ Ey.typeIs (zac ?_))
 refine zaa (wpAny_isOneOf_keyiter Ey.typeIs (?_:wpAny _ _ (setField (.ref it) 1 (rawInt ((i:Int)+1)) >>= _) _ _ s))
 refine zaa (zbr hoi hdi (by simp) ?_)
 have TX:(s.heap.update it (Obj.mapFields (·.setIfInBounds 1 (rawInt ((i:Int)+1))))).IsKeyIter it d (i+1) es.size ep:=
  ⟨_,zaA _ hoi (zcL (zbx hdi _)),(Obj.cls_mapFields ..).trans hci,by rw[zbx hdi];simp[rawInt]⟩
 refine zaa (zaz (zaa (wpAny_isOneOf_keyiter (s:={s with heap:=s.heap.update it (Obj.mapFields (·.setIfInBounds 1 (rawInt ((i:Int)+1))))}) TX.typeIs (?_:wpAny _ _ (pure es[i].key) _ _ _))))
 exact zac (zac ⟨_,rfl,zac (hQ _ TX (zbg ..))⟩)
theorem Nm (hh:A.handled=none)(Ey:s.heap.IsKeyIter it d i es.size ep)(sQ:s.heap.get? d=some o)(Ci:o.data = .dict es ep)(hge:es.size<=i)
  (hQ:∀h',Heap.ExtBut it s.heap h'->Q none {s with heap:=h' }):wpAny (model prog w) A (pyNext (.ref it)) Q E s:=by
 obtain⟨oi,hoi,hci,hdi⟩:=id Ey;unfold pyNext;refine zaa (zcz (zaH (name:=Str.ofString "__next__") Ey.typeIs zbA
  (zaF zbA Ey.typeIs zdF (zaa (zac (zaa (zaa ?_)))) (zdD _))))
 first|refine zaa (zbV Ey.typeIs (zac ?_))|refine zaa (dQ Ey.typeIs (zac ?_))
 refine zaa (zdN hoi hdi ?_)
 simp only[(by decide:Builtin.Dict_items.ownsTuple "dict_keyiterator"=false),zaC,if_false]
 show wpAny _ _ (if (Value.ref d == Value.none)=true then _ else _) _ _ s
 rw[if_neg (show ¬ ((Value.ref d == Value.none)=true) from zai)];refine zaa (zac (zaa (zec sQ Ci ?_)))
 rw[if_neg (by simp)]
 refine zaa (zac (zaa (zeH sQ Ci ?_)))
 rw[if_neg (by simp)]
 refine zac ?_
 simp only[show ¬ ((i:Int)<0) from by omega,if_false,zbs,zcb hge]
 refine zaa ?_
 first|refine zaa (zbV Ey.typeIs (zac ?_))|refine zaa (dQ Ey.typeIs (zac ?_))
 show wpAny _ _ (setField (.ref it) 0 .none >>= _) _ _ s
 refine zaa (zbr hoi hdi (by simp) (?_:wpAny _ _ (newExc (.type "StopIteration") [] >>= _) _ _ _))
 refine zaa ?_
 simp only[newExc,newTuple];refine zaa (zaB ?_ (by size_fits))
 refine zaa (m:=firstArgMember _ _) (zdp (a:=Value.none) (by first|rfl | (simp only[firstArgMember];rfl)) ?_)
 refine zaB ?_ (by size_fits)
 simp only[raiseNew];refine zaa (wpAny_handled ?_)
 rw[show A.in1.handled=none from hh];refine zaa (zac (wpAny_throw ?_))
 refine zaa (zcP (T:= "StopIteration") (b:=true) ⟨_,zak _ rfl,rfl⟩ zdM ?_)
 exact zac (hQ _ (((zbg ..).extBut.push _).push _))
noncomputable def Itd (a:Addr)(o:Obj)(u:HO)(ks:List V):It:=⟨λi H=>H a=some (.qH o u)/\i<ks.length,λi H x H'=>H'=H/\ks[i]? = some x,λi H=>H a=some (.qH o u)/\ks.length<=i⟩
theorem yG {K:W.Frag}(a it:Addr)(hc:o.ExactDict)(hd:o.data = .dict es ep)(hn:es.size=ks.length)(hk:∀i (h:i<es.size) x,ks[i]? = some x->bI x es[i].key):
  JB P w K tg (Itd a o u ks) [it] it (λi h=>h.IsKeyIter it a i es.size ep) where
 mem:=by simp
 j8:=λi h st b hb=>by
  have e:b=it:=by simpa using hb
  subst e;obtain⟨o,e,c,d⟩:=st;exact⟨o,e,λv z=>by rw[d] at z;cases z⟩
 keep:=λi h h' st k=>st.at λo e=>k it (by simp) o e
 item:=by
  intro X hP hw hK hcm i ah s σ H E I hf st hg;subst hP hw hK;obtain⟨ha,hi⟩:=hg;obtain⟨ho,_⟩:=(show bP X.prog X.w H s.heap a (.qH o u) from I.bZ a _ ha)
  obtain⟨f0,f1,f2,f3,f4,f5⟩:=hf it (by simp)
  have hi2:i<es.size:=by omega
  refine Nl st ho hd hi2 λh' G7 sb=>?_
  have I1:aH X ah σ H {s with heap:=h' }:=I.oM (t':=s.toks) (λb o hb e=>(sb.2 b hb).trans e) f0 f1 f3 f4 f5
  obtain⟨oi,e,c,d⟩:=id G7;exact⟨_,rfl,Ma (s:={s with heap:=h' }) e c d (by decide) ⟨ks[i],H,I1,hk i hi2 _ (zag hi),⟨rfl,zag hi⟩,G7,λb hb=>(hf b hb).1⟩⟩
 done:=by
  intro X hP hw hK hcm i ah s σ H E I hf st hg;subst hP hw hK;obtain⟨ha,hi⟩:=hg;obtain⟨ho,_⟩:=(show bP X.prog X.w H s.heap a (.qH o u) from I.bZ a _ ha)
  obtain⟨f0,f1,f2,f3,f4,f5⟩:=hf it (by simp)
  exact Nm (I.ok.hd hcm) st ho hd (by omega) λh' eb=>⟨rfl,I.oM (t':=s.toks) (λb o hb e=>eb b o hb e) f0 f1 f3 f4 f5⟩
 self:=λ_ _ _ _ _ st h=>wpAny_pyIter_keyiter st h
theorem TY (h:mK k v=true):bI (kV k) v:=by
 rcases cZ h with⟨i,t,rfl,rfl⟩|⟨x,t,rfl,rfl⟩
 ·exact⟨t,rfl⟩
 ·exact⟨t,rfl⟩
theorem Paired.aia {α β γ:Type}{F:α -> β -> Prop}{G:α -> γ -> Prop}{f:β -> γ}(h:∀a b,F a b->G a (f b)):∀{l:List α} {m:List β},Paired F l m->Paired G l (m.map f)
 |_,_,.nil=>.nil
 |_,_,.cons r t=>.cons (h _ _ r) (Paired.aia h t)
def Nn (H:Hp)(u:HO)(ks:List V):Prop:=match u with
 |.dK aI=>ks=aI.map λp=>kV p.1
 |.dT aI=>Paired (λ(p:List dF×V) (x:V)=>∃b,x = .ref b/\H b=some (.gn (p.1.map kV))) aI ks
 |_=>False
noncomputable def Hx:HO->Prop|.dK _=>True|.dT _=>True|_=>False
theorem Hy {P:Program}{w:World}{H:Hp}(hu:Hx u)(x:bP P w H h a u):(a == sysModules)=false/\∃o ks es ep,h.get? a=some o/\Nn H u ks/\o.ExactDict/\o.data = .dict es ep/\es.size=ks.length/\∀i (h:i<es.size) x,ks[i]? = some x->bI x es[i].key:=by
 cases u with
 |dK aI =>
  obtain⟨_,hs,vs,kv,o,es,ep,ho,hc,hd,hk,hp,hn⟩:=x;have hl:=hp.length;have kl:=kv.length;have kk:=kv.sA;refine⟨hs,o,_,es,ep,ho,rfl,hc,hd,by rw[zad,kl,<-hl];simp,λi hi y hy=>?_⟩
  rw[zar] at hy;have hiv:i<vs.length:=by rw[<-hl];simpa using hi
  have e1:(aI.map (·.1))[i]? = (vs.map (·.1))[i]?:= by rw[kk]
  rw[zar,zar,zag hiv] at e1;rw[zag (by omega)] at hy e1
  simp only[zcf,zbU] at hy e1
  have:=(hp.get? (i:=i) (e:=es[i]) (k:=vs[i].1) (v:=vs[i].2) (by simp[hi]) (by rw[zag hiv])).1
  rw[<-hy,e1];exact TY this
 |dT aI =>
  obtain⟨_,hs,xs,pr,o,es,ep,ho,hc,hd,he,hn⟩:=x;have hl:es.size=xs.length:=by have:=congrArg List.length he;simpa using this
  refine⟨hs,o,xs.map λq=>.ref q.2.1,es,ep,ho,?_,hc,hd,by rw[zad,hl],λi hi y hy=>?_⟩
  ·show Paired _ aI (xs.map λq=>V.ref q.2.1)
   exact Paired.aia (λp q h=>⟨_,rfl,h.2.1⟩) pr
  ·rw[zar,zag (by omega)] at hy
   simp only[zcf,zbU] at hy;have e1:es[i]=entryOfKey (tupleKind (bS P w)) (xs[i]'(by omega)):=by
    have:=entry_at he i
    rw[zco hi,zag (by omega)] at this
    simpa using this
   rw[<-hy,e1];rfl
 |_=>exact hu.elim
def anw (tl:TE):TI:=λσ H R=>tl σ H λx H1=>∃a u,x = .ref a/\Hx u/\((H1 a=some u/\∀o ks,Nn H1 u ks->R (Itd a o u ks) (bf H1 a (.qH o u)))\/∃o,H1 a=some (.qH o u)/\∀ks,Nn H1 u ks->R (Itd a o u ks) H1)
theorem TZ {l:Expr}{tl:TE}(hl:PE X l tl):PI X tg l (anw tl):=by
 intro ah s σ H R I h;refine cP (hl ah s σ H _ I h) λv s1 bU=>?_
 obtain⟨x,H1,I1,r1,q1⟩:=bU;obtain⟨a,u,e,hu,q⟩:=q1;subst e;cases r1;rcases q with⟨ha,q⟩|⟨o,ha,q⟩
 ·obtain⟨hs,o,ks,es,ep,ho,hk,hc,hd,hn,hr⟩:=Hy hu (I1.bZ a u ha)
  refine Cg hs ho hc hd ?_
  have mu:Mut (H1 a):=by rw[ha];cases u<;>first|exact hu.elim|trivial
  have I2:aH X ah σ (bf H1 a (.qH o u)) { s1 with heap:=s1.heap.push { cls:=.type "dict_keyiterator",data:=.fields #[.ref a,.int 0 0,.int es.size 0,.int ep 0]} }:=I1.j6 (t':=s1.toks) (x:=a) (e:=a) mu (.inl rfl) (λb v _ e=>zab _ e) ⟨o,zab _ ho⟩
   ⟨zab _ ho,(I1.bZ a u ha).sD (λb v _ e=>zab _ e) (λb hb=>by rw[av (λz=>by subst z;rw[ha] at hb;cases hb;exact hu.elim)];exact hb) λb xs hb=>by rw[av (λz=>by subst z;rw[ha] at hb;cases hb;exact hu.elim)];exact hb⟩
  refine⟨s1.heap.objs.size,[s1.heap.objs.size],_,_,_,rfl,I2,yG a _ hc hd hn hr,⟨_,zak _ rfl,rfl,rfl⟩,λb hb=>?_,q o ks hk⟩
  have e:b=s1.heap.objs.size:=by simpa using hb
  subst e;exact I1.L_ (zaf _) (by rw[av (λz=>absurd (I1.bZ.lt ha) (by rw[<-z];exact zaY _))];exact I1.bZ.fresh (zaf _))
 ·have hob:=(show bP X.prog X.w H1 s1.heap a (.qH o u) from I1.bZ a _ ha)
  obtain⟨hs,o',ks,es,ep,ho,hk,hc,hd,hn,hr⟩:=Hy hu hob.2;have eo:o'=o:=by have:=hob.1;rw[ho] at this;exact zaw this
  subst eo;refine Cg hs ho hc hd ?_
  refine⟨s1.heap.objs.size,[s1.heap.objs.size],_,_,H1,rfl,I1.eU (t':=s1.toks) λb o e=>zab _ e,yG a _ hc hd hn hr,⟨_,zak _ rfl,rfl,rfl⟩,λb hb=>?_,q ks hk⟩
  have e:b=s1.heap.objs.size:=by simpa using hb
  subst e;exact I1.L_ (zaf _) (I1.bZ.fresh (zaf _))
section
variable {X:Cx}{o:Expr}{lo:Option Expr}{to:TE}{tl:TO}{p2 pos:Pos}
end
theorem J5:typeLookup (.type "list") "keys"=pure none:=am_miss_of_fast (by decide +kernel)
theorem J7 (hx:s.heap.get? a=some { cls:=.type "list",data:=.seq xs k})(hA:A.handled=none)
  (h:∀h' tk,(∀b o,s.heap.get? b=some o->h'.get? b=some o)->Q none {s with heap:=h',toks:=tk}):wpAny (model prog w) A (getAttr? (.ref a) "keys") Q E s:=by
 obtain⟨hp,g,d,tk,os⟩:=s;have hT:∀WZ,(⟨hp,g,d,WZ,os⟩:Shared).TypeIs (.ref a) "list" := λ_=>⟨_,hx,rfl⟩
 have f1:=sub_AttributeError;have f3:=zdg.lookup;have f4:=zdg.bind (.ref a)
 have f5:=am_list_getattr_none;unfold getAttr? getAttrBy? getAttrBy
 repeat (any_goals (first|assumption|exact hT _ | ((with_reducible show wpAny _ _ (call (Value.builtin "list.__getattribute__") _ _) _ _ _);refine zdk zdg (hT _) am_entry_list_getattribute (F.args_list_getattribute_2 _ _) (meets_getattribute_miss_list a xs k #[] _ _ J5 (by decide +kernel)) ⟨hx,hA,λh' WZ e RO=>?_⟩)|wp_step))
 ·obtain⟨t',u',he⟩:=RO.there
  show wpAny _ _ (getattributeRaised _ _ _ _ _ _ _) _ _ _
  unfold getattributeRaised;repeat (any_goals (first|assumption|wp_step))
  exact h _ _ RO.keeps
theorem yH:entryFor table "dict.update.loop"=some Builtin.«dict.update.loop»:= entryFor_of_tree (by kernel_rfl)
theorem nG:plainId "dict.update.loop"=true:=by decide +kernel
noncomputable def um (kv:Nat->dF×Value):Nat->List (dF×Value)
 |0=>[]
 |i+1=>stored (um kv i) (kv i).1 (kv i).2
theorem Fo (l:List (dF×Value))(k:dF)(v:Value):(stored l k v).length<=l.length+1:=by
 unfold stored;split
 ·rw[zad];omega
 ·simp
theorem As (kv:Nat->dF×Value):∀i,(um kv i).length<=i
 |0=>zaf _
 |i+1=>zah (Fo _ _ _) (Nat.succ_le_succ (As kv i))
section
variable {prog:Program}{w:World}{A:Around}{R:Result->Shared->Prop}{I:Addr}{fp wr:List Addr}{G:Array GenState->Array GenState->Prop}{n:Nat}{P:Nat->Value->Prop}{St:Nat->Shared->Prop}
theorem DictOf.eU {h h':Heap}(q:h.DictOf (bS prog w) S l)(k:∀o,h.get? S=some o->h'.get? S=some o):h'.DictOf (bS prog w) S l:=by
 obtain⟨o,es,ep,ho,dg⟩:=q;exact⟨o,es,ep,k o ho,dg⟩
def qM (h:Heap)(a:Addr)(k x:Value):Prop:=∃o m,h.get? a=some o/\o.cls = .type "tuple" /\ o.data = .seq #[k,x] m
theorem J8 (W:WalksS prog w A.in1 I fp wr G n P St)(S:Addr)(Np:S∉fp)(ad:Nat->Addr)(kk:Nat->Value)(kv:Nat->dF×Value)(Nq:∀i v,P i v->v = .ref (ad i))(EW:∀i,i<n->mK (kv i).1 (kk i)=true)(hn:n<=1000)(had:∀i,i<n->ad i∉S::wr)(j:Nat):
  ∀(i:Nat) (t:Tok) (s:Shared),n=i+j->St i s->s.heap.DictOf (bS prog w) S (um kv i)->(∀m,m<n->qM s.heap (ad m) (kk m) (kv m).2) ->
   (∀s',Moved (S::wr) G s s'->s'.heap.DictOf (bS prog w) S (um kv n)->R (.ok (.ret .none)) s')->codeAny (model prog w) A (.builtin "dict.update.loop" ⟨[.ref S,.ref I,.int i t,.none],[]⟩) R s:=by
 have hSw:S∉wr:=λh=>Np (W.sub _ h)
 induction j with
 |zero =>
  intro i t s hi om hS hp hR;subst hi;refine zbO yH ?_
  rw[zbB nG _];refine zaa (W.done s _ _ om λs' hm=>?_)
  show wpAny _ _ (Builtin.Dict.addKeywords S [] >>= _) _ _ _
  exact zaa (zac (zac (hR s' (hm.mono λb hb=>zaJ _ hb) (DictOf.eU hS λo ho=>hm.heap S o hSw ho))))
 |succ j ih =>
  intro i t s hi om hS hp hR;refine zbO yH ?_
  rw[zbB nG _];refine zaa (W.item i s _ _ (by omega) om λv s' hP abN hm=>?_)
  have hv:=Nq i v hP;subst hv;have LL:s'.heap.DictOf (bS prog w) S (um kv i):=DictOf.eU hS λo ho=>hm.heap S o hSw ho
  have hp':∀m,m<n->qM s'.heap (ad m) (kk m) (kv m).2:=λm hmn=>by
   obtain⟨o,q,ho,dg⟩:=hp m hmn;exact⟨o,q,hm.heap _ o (λz=>had m hmn (zaJ _ z)) ho,dg⟩
  obtain⟨o,q,ho,hc,hd⟩:=hp' i (by omega)
  have hT:s'.TypeIs (.ref (ad i)) "tuple" := ⟨o,ho,hc⟩
  refine zaa (zaz ?_)
  refine zaa (wpAny_tryCatch ?_)
  unfold Builtin.Dict.pairItems;refine zaa (zcK hT ?_)
  rw[if_pos (by decide)]
  unfold seqItems?
  refine zaa (zaa (wpAny_load ho ?_))
  rw[hd];refine zac (zac ?_)
  show wpAny _ _ (holding [kk i,(kv i).2] (dictSet S (kk i) (kv i).2)) _ _ _
  have hle:=As kv i;refine zaz (wpAny_dictSet_pairs (EW i (by omega)) LL (λh' yI MW=>?_) (zah (by omega:(um kv i).length<=1000) (by decide)))
  refine zac ⟨zcU nG _,ih (i+1) _ _ (by omega) (W.frame _ s' _ _ abN (zbc _) λb hb o e=>?_) yI (λm hmn=>?_) λs'' abO abP=>?_⟩
  ·rw[MW.2 b (λz:b=S=>Np (by rw[<-z];exact hb))];exact e
  ·obtain⟨o2,q2,RQ,dg⟩:=hp' m hmn
   exact⟨o2,q2,by rw[MW.2 _ (λz=>had m hmn (by rw[z];exact zbI))];exact RQ,dg⟩
  ·refine hR s'' (Moved.trans W.gtrans ((hm.mono λb hb=>zaJ _ hb).then_heap (zbc _) λb o hb e=>?_) abO) abP
   rw[MW.2 b (λz:b=S=>hb (by rw[z];exact zbI))];exact e
end
section
variable {prog:Program}{w:World}{A:Around}{E:Value->Shared->Prop}{s:Shared}
theorem sH {l:Addr}{ad:Nat->Addr}{kk:Nat->Value}(hh:A.handled=none)(hol:s.heap.get? l=some { cls:=.type "list",data:=.seq items nl})
  (Nq:∀i v,items[i]? = some v->v=Value.ref (ad i)) (EW:∀i,i<items.size->mK (kv i).1 (kk i)=true) (hn:items.size<=1000) (hp:∀m,m<items.size->qM s.heap (ad m) (kk m) (kv m).2)
  (h:∀(h':Heap) (tk:Nat),h'.DictOf (bS prog w) s.heap.objs.size (um kv items.size)->(∀b o,s.heap.get? b=some o->h'.get? b=some o)->Q (.ref s.heap.objs.size) {s with heap:=h',toks:=tk}):
  wpAny (model prog w) A (call (.type "dict") [.ref l]) Q E s:=by
 refine callType_codes (Q₁:= λj8 cD=>j8 = .ref s.heap.objs.size/\cD = { s with heap:=s.heap.push { cls:=.type "dict",data:=.dict #[]} }) F.kt_called_dict (F.kt_typeCall_dict_1 _) F.entry_dict_init (kt_code_dict_new _ ⟨rfl,rfl⟩) ?_
 rintro j8 cD ⟨rfl,rfl⟩
 have MN:(s.heap.push { cls:=.type "dict",data:=.dict #[]}).DictOf (bS prog w) s.heap.objs.size []:=Heap.DictOf.new s.heap
 have Nr:(s.heap.push { cls:=.type "dict",data:=.dict #[]}).get? l=some { cls:=.type "list",data:=.seq items nl}:=zab _ hol
 have hlS:l<s.heap.objs.size:=zaj hol
 refine⟨MN.typeIs,F.args_dict_init_2 _ _,?_⟩
 unfold Builtin.«dict.__init__»
 refine zaa ?_
 unfold Builtin.Dict.selfAndRest;refine zaa (wpAny_notOrdered_dict MN.typeIs (?_:wpAny _ _ (pure (s.heap.objs.size,[Value.ref l])) _ _ _))
 refine zac ?_
 show wpAny _ _ (Builtin.Dict.updateFrom "dict.__init__" s.heap.objs.size (.ref l) [] .none) _ _ _
 unfold Builtin.Dict.updateFrom;refine zaa (zcK (T:= "list") ⟨_,Nr,rfl⟩ ?_)
 rw[if_pos (by decide)]
 refine zaa (J7 Nr (by simp[hh]) λh1 tk1 hk1=>?_)
 simp only[zdR,if_true];refine zaa (zcA ?_)
 have anx:h1.get? l=some { cls:=.type "list",data:=.seq items nl}:=hk1 _ _ Nr
 have W0:h1.DictOf (bS prog w) s.heap.objs.size []:=DictOf.eU MN λo ho=>hk1 _ _ ho
 have Nt:h1.IsList l items:=⟨_,anx,rfl,nl,rfl⟩
 have T4:s.heap.objs.size<h1.objs.size:=by
  obtain⟨o,_,_,ho,_⟩:=W0;exact zaj ho
 refine zaa (zbS (s:={s with heap:=h1,toks:=tk1}) Nt ?_)
 refine zac ?_
 refine⟨zcU nG _,?_⟩
 have abR:l≠h1.objs.size:=zao (zeo hlS T4)
 have Np:s.heap.objs.size∉[h1.objs.size,l]:=by
  simp only[zam,zav,or_false,not_or];exact⟨zao T4,zbv hlS⟩
 have hp1:∀m,m<items.size->qM h1 (ad m) (kk m) (kv m).2:=λm hm=>by
  obtain⟨o,q,ho,dg⟩:=hp m hm;exact⟨o,q,hk1 _ _ (zab _ ho),dg⟩
 refine J8 ((Walks.list (by simp[hh]) _ l abR items).toS) s.heap.objs.size Np ad kk kv (λi v hv=>Nq i v hv) EW hn (λi hi=>?_) items.size 0 _ _ (by omega)
  ⟨⟨_,zak _ rfl,rfl,rfl⟩,(Nt.push _)⟩ (DictOf.eU W0 λo ho=>zab _ ho) (λm hm=>?_) ?_
 ·obtain⟨o,q,ho,_⟩:=hp i hi
  have:=zaj ho
  simp only[zam,zav,or_false,not_or];exact⟨zao this,zao (zeo this T4)⟩
 ·obtain⟨o,q,ho,dg⟩:=hp1 m hm
  exact⟨o,q,zab _ ho,dg⟩
 ·intro s' hm LL
  obtain⟨h',g',d',WZ,os'⟩:=s';have eg:g'=s.gens:=hm.gens
  have ed:d'=s.drawn:=hm.drawn
  have eo:os'=s.os:=hm.os
  subst eg;subst ed;subst eo;refine⟨rfl,h h' WZ LL λb o e=>?_⟩
  have hb0:=zaj e;exact hm.heap b o (by simp only[zam,zav,or_false,not_or];exact⟨zao hb0,zao (zeo hb0 T4)⟩) (zab _ (hk1 _ _ (zab _ e)))
end
inductive Tr where
 |bq|bl (b:Bool)|int (i:Int)|str (x:Str)|tp (l:List Tr)|ls (l:List Tr)|kt (l:List Tr)|kl (l:List Tr)|hd (n:Nat)
inductive Ce where
 |uo|bD (l:List Tr)|iy (l:List (dF×Tr))|fH (c:Str) (fs:List (Str×Tr))|xD (c:Str) (fs:List (Str×Tr))|nW (l:List (List dF×Tr))|xE (l:List (dF×Tr))|rO (l:List (List dF×Tr))
noncomputable def Ce.fz:Ce->Bool|.uo=>true|.xE _=>true|.rO _=>true|_=>false
noncomputable abbrev Cs:=List Ce
structure Wd where
 K:W.Frag
 n:Nat
 ρ:Nat->Addr
 F:Hp
 hid:Hp
structure Wd.le (w w':Wd):Prop where
 K:w'.K=w.K
 n:w.n<=w'.n
 r:∀i,i<w.n->w'.ρ i=w.ρ i
 F:∀b o,w.F b=some o->w'.F b=some o
 hid:w'.hid=w.hid
theorem Wd.le.refl (w:Wd):w.le w:=⟨rfl,zaf _,λ_ _=>rfl,λ_ _ h=>h,rfl⟩
theorem Wd.le.trans {a b c:Wd}(h:a.le b)(g:b.le c):a.le c:=
 ⟨g.K.trans h.K,zah h.n g.n,λi hi=>(g.r i (zap hi h.n)).trans (h.r i hi),λb o e=>g.F b o (h.F b o e),g.hid.trans h.hid⟩
mutual
noncomputable def RT (w:Wd):Tr->V->Prop
 |.bq,v=>v = .bq
 |.bl b,v=>v = .bl b
 |.int i,v=>v = .int i
 |.str x,v=>v = .str x
 |.tp l,v=>∃a xs,v = .ref a/\w.F a=some (.gn xs)/\bG w l xs
 |.ls l,v=>∃a xs,v = .ref a/\w.F a=some (.bD xs)/\bG w l xs
 |.kt l,v=>∃a xs,v = .ref a/\pA w.K w.F a xs/\bG w l xs
 |.kl l,v=>∃a xs,v = .ref a/\jy w.K w.F a xs/\bG w l xs
 |.hd n,v=>n<w.n/\v = .ref (w.ρ n)
noncomputable def bG (w:Wd):List Tr->List V->Prop
 |[],xs=>xs=[]
 |d::l,xs=>∃x r,xs=x::r/\RT w d x/\bG w l r
end
theorem Rd.mono {H H':Hp}(h:∀b o,H b=some o->H' b=some o){a:Addr}{u:HO}(r:Rd H a u):Rd H' a u:=by
 rcases r with r|⟨o,r⟩
 ·exact .inl (h _ _ r)
 ·exact .inr ⟨o,h _ _ r⟩
theorem jy.mono {K:W.Frag}{H H':Hp}(h:∀b o,H b=some o->H' b=some o){a:Addr}{xs:List V}(r:jy K H a xs):jy K H' a xs:=r.imp (Rd.mono h) id
theorem pA.mono {K:W.Frag}{H H':Hp}(h:∀b o,H b=some o->H' b=some o){a:Addr}{xs:List V}(r:pA K H a xs):pA K H' a xs:=r.imp (Rd.mono h) id
mutual
theorem RT.mono {w w':Wd}(le:w.le w'):∀(t:Tr) (v:V),RT w t v->RT w' t v
 |.bq,v,h=>by unfold RT at h ⊢;exact h
 |.bl b,v,h=>by unfold RT at h ⊢;exact h
 |.int b,v,h=>by unfold RT at h ⊢;exact h
 |.str b,v,h=>by unfold RT at h ⊢;exact h
 |.tp l,v,h=>by
  unfold RT at h ⊢
  obtain⟨a,xs,e,s,r⟩:=h;exact⟨a,xs,e,le.F _ _ s,bG.mono le l xs r⟩
 |.ls l,v,h=>by
  unfold RT at h ⊢
  obtain⟨a,xs,e,s,r⟩:=h;exact⟨a,xs,e,le.F _ _ s,bG.mono le l xs r⟩
 |.kt l,v,h=>by
  unfold RT at h ⊢
  obtain⟨a,xs,e,s,r⟩:=h;exact⟨a,xs,e,by rw[le.K];exact s.mono le.F,bG.mono le l xs r⟩
 |.kl l,v,h=>by
  unfold RT at h ⊢
  obtain⟨a,xs,e,s,r⟩:=h;exact⟨a,xs,e,by rw[le.K];exact s.mono le.F,bG.mono le l xs r⟩
 |.hd n,v,h=>by
  unfold RT at h ⊢
  exact⟨zap h.1 le.n,by rw[le.r n h.1];exact h.2⟩
theorem bG.mono {w w':Wd}(le:w.le w'):∀(l:List Tr) (xs:List V),bG w l xs->bG w' l xs
 |[],xs,h=>by unfold bG at h ⊢;exact h
 |d::l,xs,h=>by
  unfold bG at h ⊢
  obtain⟨x,r,e,h1,h2⟩:=h;exact⟨x,r,e,RT.mono le d x h1,bG.mono le l r h2⟩
end
mutual
theorem RT.bg {w:Wd}(hid:Hp):∀(t:Tr) (v:V),RT w t v->RT {w with hid:=hid} t v
 |.bq,v,h=>by unfold RT at h ⊢;exact h
 |.bl b,v,h=>by unfold RT at h ⊢;exact h
 |.int b,v,h=>by unfold RT at h ⊢;exact h
 |.str b,v,h=>by unfold RT at h ⊢;exact h
 |.tp l,v,h=>by unfold RT at h ⊢;obtain⟨a,xs,e,s,r⟩:=h;exact⟨a,xs,e,s,bG.bg hid l xs r⟩
 |.ls l,v,h=>by unfold RT at h ⊢;obtain⟨a,xs,e,s,r⟩:=h;exact⟨a,xs,e,s,bG.bg hid l xs r⟩
 |.kt l,v,h=>by unfold RT at h ⊢;obtain⟨a,xs,e,s,r⟩:=h;exact⟨a,xs,e,s,bG.bg hid l xs r⟩
 |.kl l,v,h=>by unfold RT at h ⊢;obtain⟨a,xs,e,s,r⟩:=h;exact⟨a,xs,e,s,bG.bg hid l xs r⟩
 |.hd n,v,h=>by unfold RT at h ⊢;exact h
theorem bG.bg {w:Wd}(hid:Hp):∀(l:List Tr) (xs:List V),bG w l xs->bG {w with hid:=hid} l xs
 |[],xs,h=>by unfold bG at h ⊢;exact h
 |d::l,xs,h=>by
  unfold bG at h ⊢
  obtain⟨x,r,e,h1,h2⟩:=h;exact⟨x,r,e,RT.bg hid d x h1,bG.bg hid l r h2⟩
end
theorem bG.nil {w:Wd}:bG w [] []:=by unfold bG;rfl
theorem bG.cons {w:Wd}{t:Tr}{l:List Tr}{v:V}{xs:List V}(h:RT w t v)(r:bG w l xs):bG w (t::l) (v::xs):=by unfold bG;exact⟨v,xs,rfl,h,r⟩
theorem bG.b_ {w:Wd}{xs:List V}(h:bG w [] xs):xs=[]:=by unfold bG at h;exact h
theorem bG.bA {w:Wd}{t:Tr}{l:List Tr}{xs:List V}(h:bG w (t::l) xs):∃x r,xs=x::r/\RT w t x/\bG w l r:=by unfold bG at h;exact h
theorem bG.len {w:Wd}:∀{l:List Tr} {xs:List V},bG w l xs->xs.length=l.length
 |[],xs,h=>by rw[h.b_];rfl
 |d::l,xs,h=>by
  obtain⟨x,r,rfl,_,h2⟩:=h.bA;simp[bG.len h2]
theorem bG.get {w:Wd}:∀{l:List Tr} {xs:List V} {i:Nat} {t:Tr},bG w l xs->l[i]? = some t->∃v,xs[i]? = some v/\RT w t v
 |[],xs,i,t,h,e=>by simp at e
 |d::l,xs,i,t,h,e=>by
  obtain⟨x,r,rfl,h1,h2⟩:=h.bA;cases i with
  |zero=>simp at e;subst e;exact⟨x,rfl,h1⟩
  |succ i=>simpa using bG.get (i:=i) h2 (by simpa using e)
theorem bG.sI {w:Wd}:∀{l m:List Tr} {xs ys:List V},bG w l xs->bG w m ys->bG w (l++m) (xs++ys)
 |[],m,xs,ys,h,g=>by rw[h.b_];exact g
 |d::l,m,xs,ys,h,g=>by
  obtain⟨x,r,rfl,h1,h2⟩:=h.bA;exact .cons h1 (bG.sI h2 g)
theorem bG.take {w:Wd}:∀{l:List Tr} {xs:List V} (n:Nat),bG w l xs->bG w (l.take n) (xs.take n)
 |[],xs,n,h=>by rw[h.b_];simp;exact .nil
 |d::l,xs,0,h=>by simp;exact .nil
 |d::l,xs,n+1,h=>by
  obtain⟨x,r,rfl,h1,h2⟩:=h.bA;exact .cons h1 (bG.take n h2)
theorem bG.drop {w:Wd}:∀{l:List Tr} {xs:List V} (n:Nat),bG w l xs->bG w (l.drop n) (xs.drop n)
 |[],xs,n,h=>by rw[h.b_];simp;exact .nil
 |d::l,xs,0,h=>h
 |d::l,xs,n+1,h=>by
  obtain⟨x,r,rfl,h1,h2⟩:=h.bA;exact bG.drop n h2
theorem bG.snoc {w:Wd}{l:List Tr}{xs:List V}{t:Tr}{v:V}(h:bG w l xs)(g:RT w t v):bG w (l++[t]) (xs++[v]):=h.sI (.cons g .nil)
def RK (w:Wd){α:Type}(l:List (α × Tr))(m:List (α × V)):Prop:=m.map Prod.fst=l.map Prod.fst/\bG w (l.map Prod.snd) (m.map Prod.snd)
theorem RK.mono {w w':Wd}(le:w.le w'){α:Type}{l:List (α × Tr)}{m:List (α × V)}(h:RK w l m):RK w' l m:=⟨h.1,bG.mono le _ _ h.2⟩
theorem RK.nil {w:Wd}{α:Type}:RK w ([]:List (α × Tr)) []:=⟨rfl,.nil⟩
theorem RK.cons {w:Wd}{α:Type}{k:α}{t:Tr}{v:V}{l:List (α × Tr)}{m:List (α × V)}(h:RT w t v)(r:RK w l m):RK w ((k,t)::l) ((k,v)::m):=⟨by simp[r.1],.cons h r.2⟩
theorem RK.bA {w:Wd}{α:Type}{k:α}{t:Tr}{l:List (α × Tr)}{m:List (α × V)}(h:RK w ((k,t)::l) m):∃v r,m=(k,v)::r/\RT w t v/\RK w l r:=by
 obtain⟨h1,h2⟩:=h;cases m with
 |nil=>simp at h1
 |cons p r =>
  obtain⟨q,v⟩:=p;simp only[zat,List.cons.injEq] at h1;obtain⟨x,r',e,g1,g2⟩:=h2.bA;simp only[zat,List.cons.injEq] at e;obtain⟨rfl,rfl⟩:=e;obtain⟨rfl,e2⟩:=h1;exact⟨v,r,rfl,g1,e2,g2⟩
theorem RK.b_ {w:Wd}{α:Type}{m:List (α × V)}(h:RK w ([]:List (α × Tr)) m):m=[]:=by simpa using h.1
theorem RK.len {w:Wd}{α:Type}{l:List (α × Tr)}{m:List (α × V)}(h:RK w l m):m.length=l.length:=by simpa using congrArg List.length h.1
def e_ (S:Cs)(i:Nat):Prop:=∃c,S[i]? = some c/\c.fz=false
open Classical in
noncomputable def Fz (ρ:Nat->Addr)(hid:Hp)(S:Cs)(H:Hp):Hp:=λb=>if (∃i,e_ S i /\ ρ i=b)\/hid b≠none then none else H b
structure Gx where
 K:W.Frag
 cl:Str->Addr
 E:XK
noncomputable def bz (G:Gx)(w:Wd)(H:Hp)(a:Addr):Ce->Prop
 |.uo=>True
 |.bD l=>∃xs,H a=some (.bD xs)/\bG w l xs
 |.iy l=>∃aI,H a=some (.dK aI)/\RK w l aI
 |.fH c fs=>∃dx xF,H a=some (.fH (G.cl c) dx xF)/\RK w fs xF
 |.xD c fs=>∃T d xF,H a=some (uh a (G.cl c) (some d) T)/\w.F T=some (TB T)/\w.F d=some (ED d xF)/\T≠a/\d≠a/\RK w fs xF
 |.nW l=>∃aI,H a=some (.dT aI)/\RK w l aI
 |.xE l=>∃o aI,w.F a=some (.qH o (.dK aI))/\RK w l aI
 |.rO l=>∃o aI,w.F a=some (.qH o (.dT aI))/\RK w l aI
theorem bz.mono {G:Gx}{w w':Wd}(le:w.le w'){H H':Hp}{a:Addr}(hH:∀o,H a=some o->H' a=some o):∀{c:Ce},bz G w H a c->bz G w' H' a c
 |.uo,_=>trivial
 |.bD l,h=>let ⟨xs,e,r⟩:=h;⟨xs,hH _ e,bG.mono le _ _ r⟩
 |.iy l,h=>let ⟨xs,e,r⟩:=h;⟨xs,hH _ e,r.mono le⟩
 |.fH c l,h=>let ⟨dx,xs,e,r⟩:=h;⟨dx,xs,hH _ e,r.mono le⟩
 |.xD c l,h=>let ⟨T,d,xs,e,e2,e3,n1,n2,r⟩:=h;⟨T,d,xs,hH _ e,le.F _ _ e2,le.F _ _ e3,n1,n2,r.mono le⟩
 |.nW l,h=>let ⟨xs,e,r⟩:=h;⟨xs,hH _ e,r.mono le⟩
 |.xE l,h=>let ⟨o,xs,e,r⟩:=h;⟨o,xs,le.F _ _ e,r.mono le⟩
 |.rO l,h=>let ⟨o,xs,e,r⟩:=h;⟨o,xs,le.F _ _ e,r.mono le⟩
theorem bz.Nu {G:Gx}{w w':Wd}(le:w.le w'){H H':Hp}{a:Addr}:∀{c:Ce},c.fz=true->bz G w H a c->bz G w' H' a c
 |.uo,_,_=>trivial
 |.xE l,_,h=>let ⟨o,xs,e,r⟩:=h;⟨o,xs,le.F _ _ e,r.mono le⟩
 |.rO l,_,h=>let ⟨o,xs,e,r⟩:=h;⟨o,xs,le.F _ _ e,r.mono le⟩
theorem RK.bg {w:Wd}(hid:Hp){α:Type}{l:List (α × Tr)}{m:List (α × V)}(h:RK w l m):RK {w with hid:=hid} l m:=⟨h.1,bG.bg hid _ _ h.2⟩
theorem bz.bg {G:Gx}{w:Wd}{hid:Hp}{H H':Hp}{a:Addr}(hH:∀o,H a=some o->H' a=some o):∀{c:Ce},bz G w H a c->bz G {w with hid:=hid} H' a c
 |.uo,_=>trivial
 |.bD l,h=>let ⟨xs,e,r⟩:=h;⟨xs,hH _ e,bG.bg hid _ _ r⟩
 |.iy l,h=>let ⟨xs,e,r⟩:=h;⟨xs,hH _ e,r.bg hid⟩
 |.fH c l,h=>let ⟨dx,xs,e,r⟩:=h;⟨dx,xs,hH _ e,r.bg hid⟩
 |.xD c l,h=>let ⟨T,d,xs,e,e2,e3,n1,n2,r⟩:=h;⟨T,d,xs,hH _ e,e2,e3,n1,n2,r.bg hid⟩
 |.nW l,h=>let ⟨xs,e,r⟩:=h;⟨xs,hH _ e,r.bg hid⟩
 |.xE l,h=>let ⟨o,xs,e,r⟩:=h;⟨o,xs,e,r.bg hid⟩
 |.rO l,h=>let ⟨o,xs,e,r⟩:=h;⟨o,xs,e,r.bg hid⟩
theorem bz.J9 {G:Gx}{w:Wd}{hid:Hp}{H H':Hp}{a:Addr}:∀{c:Ce},c.fz=true->bz G w H a c->bz G {w with hid:=hid} H' a c
 |.uo,_,_=>trivial
 |.xE l,_,h=>let ⟨o,xs,e,r⟩:=h;⟨o,xs,e,r.bg hid⟩
 |.rO l,_,h=>let ⟨o,xs,e,r⟩:=h;⟨o,xs,e,r.bg hid⟩
theorem bz.abS {G:Gx}{w:Wd}{F' T5:Hp}(hF:∀b o,w.F b=some o->F' b=some o){H:Hp}{a:Addr}{c:Ce}(h:bz G w H a c):bz G {w with hid:=T5,F:=F' } H a c:=
 bz.mono (w:={w with hid:=T5}) (w':={w with hid:=T5,F:=F' }) ⟨rfl,zaf _,λ_ _=>rfl,hF,rfl⟩ (λ_ e=>e) (bz.bg (hid:=T5) (λ_ e=>e) h)
theorem bz.some {G:Gx}{w:Wd}{H:Hp}{a:Addr}:∀{c:Ce},bz G w H a c->c.fz=false->∃o,H a=some o
 |.uo,_,n=>by cases n
 |.bD l,h,_=>let ⟨xs,e,r⟩:=h;⟨_,e⟩
 |.iy l,h,_=>let ⟨xs,e,r⟩:=h;⟨_,e⟩
 |.fH c l,h,_=>let ⟨dx,xs,e,r⟩:=h;⟨_,e⟩
 |.xD c l,h,_=>let ⟨T,d,xs,e,_⟩:=h;⟨_,e⟩
 |.nW l,h,_=>let ⟨xs,e,r⟩:=h;⟨_,e⟩
 |.xE l,_,n=>by cases n
 |.rO l,_,n=>by cases n
structure HR (G:Gx) (w:Wd) (S:Cs) (H:Hp):Prop where
 K:w.K=G.K
 n:w.n=S.length
 F:w.F=Fz w.ρ w.hid S H
 cell:∀i c,S[i]? = some c->bz G w H (w.ρ i) c
 inj:∀i j,e_ S i->e_ S j->w.ρ i=w.ρ j->i=j
 hid:∀b o,w.hid b=some o->H b=some o
 ku:∀i,e_ S i->w.hid (w.ρ i)=none
 hl:∀b xs,w.hid b≠some (.gn xs)
theorem HR.sub (h:HR G w S H):∀b o,w.F b=some o->H b=some o:=λb o e=>by
 rw[h.F] at e;unfold Fz at e;split at e
 ·cases e
 ·exact e
theorem HR.sqL (h:HR G w S H){a:Addr}{xs:List V}(s:jy w.K w.F a xs):jy G.K H a xs:=by rw[<-h.K];exact s.mono h.sub
theorem HR.sqT (h:HR G w S H){a:Addr}{xs:List V}(s:pA w.K w.F a xs):pA G.K H a xs:=by rw[<-h.K];exact s.mono h.sub
theorem HR.live (h:HR G w S H){i:Nat}(l:e_ S i):∃o,H (w.ρ i)=some o:=by
 obtain⟨c,e,n⟩:=l;exact (h.cell i c e).some n
theorem HR.Hz (h:HR G w S H){p:Addr}(hp:H p=none):w.hid p=none:=by
 cases e:w.hid p with
 |none=>rfl
 |some o=>rw[h.hid p o e] at hp;cases hp
theorem HR.free (h:HR G w S H){p:Addr}(hp:H p=none):¬ ((∃i,e_ S i/\w.ρ i=p)\/w.hid p≠none):=by
 rintro (⟨i,l,rfl⟩|z)
 ·obtain⟨o,e⟩:=h.live l
  rw[hp] at e;cases e
 ·exact z (h.Hz hp)
theorem HR.Nv (h:HR G w S H){p:Addr}(hp:H p=none):w.F p=none:=by rw[h.F];unfold Fz;rw[if_neg (h.free hp)];exact hp
theorem Au {hid:Hp}{H:Hp}{p:Addr}{o:HO}(h:∀b o,hid b=some o->H b=some o)(hp:hid p=none):∀b u,hid b=some u->bf H p o b=some u:=λb u e=>by
 rw[av λz=>by subst z;rw[hp] at e;cases e]
 exact h b u e
theorem Nx {hid:Hp}{p:Addr}{o:HO}(h:∀b xs,hid b≠some (.gn xs))(ho:∀xs,o ≠ .gn xs):∀b xs,bf hid p o b≠some (.gn xs):=λb xs e=>by
 by_cases hb:b=p
 ·subst hb;rw[aq] at e;cases e;exact ho _ rfl
 ·rw[av hb] at e;exact h b xs e
theorem HR.W2 (h:HR G w S H){p:Addr}(hp:H p=none)(o:HO):HR G {w with F:=bf w.F p o} S (bf H p o)/\w.le {w with F:=bf w.F p o}:=by
 have hn:=h.free hp;have hF:=h.Nv hp;have le:w.le {w with F:=bf w.F p o}:=⟨rfl,zaf _,λ_ _=>rfl,λb u e=>lg hF e,rfl⟩
 refine⟨⟨h.K,h.n,?_,λi c e=>(h.cell i c e).mono le λu eu=>lg hp eu,h.inj,Au h.hid (h.Hz hp),h.ku,h.hl⟩,le⟩
 show bf w.F p o=Fz w.ρ w.hid S (bf H p o)
 rw[h.F];funext b
 by_cases hb:b=p
 ·subst hb
  rw[aq];unfold Fz;rw[if_neg hn,aq]
 ·rw[av hb]
  unfold Fz;rw[av hb]
theorem yJ {c:Ce}(hc:c.fz=false):∀i,e_ (S++[c]) i↔e_ S i\/i=S.length:=λi=>by
  constructor
  ·rintro⟨d,e,n⟩
   by_cases hi:i<S.length
   ·rw[zal hi] at e;exact .inl ⟨d,e,n⟩
   ·rw[zau (by omega)] at e
    have:i - S.length<1:=by
     have:=(zae.mp e).1
     simpa using this
    exact .inr (by omega)
  ·rintro (⟨d,e,n⟩|rfl)
   ·exact⟨d,by rw[zal (zae.mp e).1];exact e,n⟩
   ·exact⟨c,by simp,hc⟩
theorem e_.lt {i:Nat}(l:e_ S i):i<S.length:=let ⟨_,e,_⟩:=l;(zae.mp e).1
noncomputable def Wd.up (w:Wd)(p:Addr):Wd:={w with n:=w.n+1,ρ:= λi=>if i=w.n then p else w.ρ i}
theorem Wd.uq (w:Wd)(p:Addr):w.le (w.up p):=⟨rfl,zbc _,λi hi=>by show (if i=w.n then p else w.ρ i)=_;rw[if_neg (by omega)],λb u e=>e,rfl⟩
theorem HR.aif (h:HR G w S H){p:Addr}{H':Hp}{c:Ce}(hc:c.fz=false)(Fp:∀i,e_ S i->w.ρ i≠p)(hH:∀b,b≠p->H' b=H b)(hF:w.F p=none)(hh:w.hid p=none)
  (ok:bz G (w.up p) H' p c):HR G (w.up p) (S++[c]) H':=by
 have lv:=yJ (S:=S) hc
 have le:=w.uq p;have iS:∀i,i<S.length->(w.up p).ρ i=w.ρ i:=λi hi=>le.r i (by rw[h.n];exact hi)
 have qN:(w.up p).ρ S.length=p:=by show (if S.length=w.n then p else w.ρ S.length)=p;rw[if_pos h.n.symm]
 refine⟨h.K,by show w.n+1=_;simp[h.n],?_,λi d e=>?_,λi j li lj e=>?_,λb o e=>?_,λi li=>?_,h.hl⟩
 ·show w.F=Fz (w.up p).ρ w.hid (S++[c]) H'
  rw[h.F];funext b
  unfold Fz;by_cases hb:b=p
  ·subst hb
   rw[h.F] at hF;unfold Fz at hF;rw[hF,if_pos (.inl ⟨S.length,(lv _).mpr (.inr rfl),qN⟩)]
  ·rw[hH b hb]
   have W3:(∃i,e_ (S++[c]) i/\(w.up p).ρ i=b)↔∃i,e_ S i/\w.ρ i=b:=by
    constructor
    ·rintro⟨i,li,e⟩
     rcases (lv i).mp li with l|rfl
     ·rw[iS i l.lt] at e
      exact⟨i,l,e⟩
     ·rw[qN] at e;exact absurd e.symm hb
    ·rintro⟨i,l,e⟩
     exact⟨i,(lv i).mpr (.inl l),by rw[iS i l.lt];exact e⟩
   by_cases hx:(∃i,e_ S i/\w.ρ i=b)\/w.hid b≠none
   ·rw[if_pos hx,if_pos (hx.imp W3.mpr λz=>z)]
   ·rw[if_neg hx,if_neg (λz=>hx (z.imp W3.mp λz=>z))]
 ·by_cases hi:i<S.length
  ·rw[zal hi] at e
   rw[iS i hi];cases hd:d.fz with
   |true=>exact bz.Nu le hd (h.cell i d e)
   |false=>exact (h.cell i d e).mono le λu eu=>by rw[hH _ (Fp i ⟨d,e,hd⟩)];exact eu
  ·rw[zau (by omega)] at e
   have h0:i - S.length<1:=by simpa using (zae.mp e).1
   have h1:i=S.length:=by omega
   subst h1;simp at e
   subst e;rw[qN];exact ok
 ·rcases (lv i).mp li with l|rfl
  ·rcases (lv j).mp lj with l' | rfl
   ·rw[iS i l.lt,iS j l'.lt] at e
    exact h.inj i j l l' e
   ·rw[iS i l.lt,qN] at e
    exact absurd e (Fp i l)
  ·rcases (lv j).mp lj with l' | rfl
   ·rw[qN,iS j l'.lt] at e
    exact absurd e.symm (Fp j l')
   ·rfl
 ·have e2:w.hid b=some o:=e
  rw[hH b λz=>by subst z;rw[hh] at e2;cases e2]
  exact h.hid b o e2
 ·show w.hid _=none
  rcases (lv i).mp li with l|rfl
  ·rw[iS i l.lt];exact h.ku i l
  ·rw[qN];exact hh
theorem HR.Ny (h:HR G w S H){p:Addr}(hp:H p=none):∀i,e_ S i->w.ρ i≠p:=λi l z=>h.free hp (.inl ⟨i,l,z⟩)
theorem HR.Fq (h:HR G w S H){p:Addr}(hp:H p=none){o:HO}{c:Ce}(hc:c.fz=false)(ok:bz G (w.up p) (bf H p o) p c):HR G (w.up p) (S++[c]) (bf H p o)/\w.le (w.up p):=
 ⟨h.aif hc (h.Ny hp) (λb hb=>av hb) (h.Nv hp) (h.Hz hp) ok,w.uq p⟩
theorem HR.put (h:HR G w S H){i:Nat}{c c':Ce}(e:S[i]? = some c)(hc:c.fz=false)(Sa:c'.fz=false){o:HO}(ok:bz G w (bf H (w.ρ i) o) (w.ρ i) c'):HR G w (S.set i c') (bf H (w.ρ i) o):=by
 have hi:=(zae.mp e).1
 have lv:∀j,e_ (S.set i c') j↔e_ S j:=λj=>by
  unfold e_;by_cases hj:i=j
  ·subst hj
   rw[zaM hi];exact⟨λ_=>⟨c,e,hc⟩,λ_=>⟨c',rfl,Sa⟩⟩
  ·rw[zaK hj]
 have li:e_ S i:=⟨c,e,hc⟩
 refine⟨h.K,by simp[h.n],?_,λj d ej=>?_,λa b la lb=>h.inj a b ((lv a).mp la) ((lv b).mp lb),Au h.hid (h.ku i li),λj lj=>h.ku j ((lv j).mp lj),h.hl⟩
 ·rw[h.F]
  funext b
  unfold Fz;by_cases hn:(∃i,e_ S i/\w.ρ i=b)\/w.hid b≠none
  ·rw[if_pos hn,if_pos (hn.imp (λz=>z.imp λj hj=>⟨(lv j).mpr hj.1,hj.2⟩) λz=>z)]
  ·rw[if_neg hn,if_neg (λz=>hn (z.imp (λz=>z.imp λj hj=>⟨(lv j).mp hj.1,hj.2⟩) λz=>z)),av λz=>hn (.inl ⟨i,⟨c,e,hc⟩,z.symm⟩)]
 ·by_cases hj:i=j
  ·subst hj
   rw[zaM hi] at ej;cases ej;exact ok
  ·rw[zaK hj] at ej
   cases hd:d.fz with
   |true=>exact bz.Nu (Wd.le.refl w) hd (h.cell j d ej)
   |false =>
    refine (h.cell j d ej).mono (Wd.le.refl w) λu eu=>?_
    rw[av λz=>hj (h.inj i j ⟨c,e,hc⟩ ⟨d,ej,hd⟩ z.symm)]
    exact eu
theorem HR.anz (h:HR G w S H){p:Addr}(hp:H p=none)(o:HO)(ho:∀xs,o ≠ .gn xs):HR G {w with hid:=bf w.hid p o} S (bf H p o):=by
 have hn:=h.free hp;have wi:∀{t:Tr} {v:V},RT w t v->RT {w with hid:=bf w.hid p o} t v:=λ{t v} r=>RT.bg _ t v r
 refine⟨h.K,h.n,?_,λi c e=>(h.cell i c e).bg λu eu=>lg hp eu,h.inj,λb u e=>?_,λi l=>?_,Nx h.hl ho⟩
 ·show w.F=Fz w.ρ (bf w.hid p o) S (bf H p o)
  rw[h.F];funext b
  unfold Fz;by_cases hb:b=p
  ·subst hb
   rw[if_neg hn,if_pos (.inr (by rw[aq];simp)),hp]
  ·rw[av hb,av hb]
 ·have e:bf w.hid p o b=some u:=e
  by_cases hb:b=p
  ·subst hb;rw[aq] at e ⊢;exact e
  ·rw[av hb] at e ⊢;exact h.hid b u e
 ·show bf w.hid p o _=none
  rw[av (h.Ny hp i l)];exact h.ku i l
theorem HR.abT (h:HR G w S H){p:Addr}{o:HO}(hp:w.hid p=some o)(o':HO)(ho:∀xs,o' ≠ .gn xs):HR G {w with hid:=bf w.hid p o' } S (bf H p o'):=by
 have Fp:∀i,e_ S i->w.ρ i≠p:=λi l z=>by have:=h.ku i l;rw[z,hp] at this;cases this
 refine⟨h.K,h.n,?_,λi c e=>?_,h.inj,λb u e=>?_,λi l=>?_,Nx h.hl ho⟩
 ·show w.F=Fz w.ρ (bf w.hid p o') S (bf H p o')
  rw[h.F];funext b
  unfold Fz;by_cases hb:b=p
  ·subst hb
   rw[if_pos (.inr (by rw[hp];simp)),if_pos (.inr (by rw[aq];simp))]
  ·rw[av hb,av hb]
 ·cases hd:c.fz with
  |true=>exact bz.J9 hd (h.cell i c e)
  |false=>exact (h.cell i c e).bg λu eu=>by rw[av (Fp i ⟨c,e,hd⟩)];exact eu
 ·have e:bf w.hid p o' b=some u:=e
  by_cases hb:b=p
  ·subst hb;rw[aq] at e ⊢;exact e
  ·rw[av hb] at e ⊢;exact h.hid b u e
 ·show bf w.hid p o' _=none
  rw[av (Fp i l)];exact h.ku i l
theorem HR.aih (h:HR G w S H){p:Addr}{o:HO}{mG:Hp}(e0:w.hid=bf mG p o)(hp0:mG p=none):HR G {w with hid:=mG,F:=bf w.F p o} S H:=by
 have hp:w.hid p=some o:=by rw[e0];exact aq
 have hH:H p=some o:=h.hid p o hp
 have Fp:∀i,e_ S i->w.ρ i≠p:=λi l z=>by have:=h.ku i l;rw[z,hp] at this;cases this
 have hF:w.F p=none:=by rw[h.F];unfold Fz;rw[if_pos (.inr (by rw[hp];simp))]
 refine⟨h.K,h.n,?_,λi c e=>?_,h.inj,λb u e=>?_,λi l=>?_,λb xs (e:mG b=_)=>h.hl b xs (by rw[e0,av λz=>by rw[z,hp0] at e;cases e];exact e)⟩
 ·show bf w.F p o=Fz w.ρ mG S H
  rw[h.F];funext b
  unfold Fz;by_cases hb:b=p
  ·subst hb
   rw[aq,if_neg,hH];rintro (⟨i,l,z⟩|z)
   ·exact Fp i l z
   ·exact z hp0
  ·rw[av hb,e0,av hb]
 ·exact bz.abS (λb u e=>lg hF e) (h.cell i c e)
 ·have e2:mG b=some u:=e
  have nb:b≠p:=λz=>by rw[z,hp0] at e2;cases e2
  exact h.hid b u (by rw[e0,av nb];exact e2)
 ·have:=h.ku i l
  rw[e0,av (Fp i l)] at this;exact this
theorem HR.T6 (h:HR G w S H){p:Addr}{o:HO}{mG:Hp}(e0:w.hid=bf mG p o)(hp0:mG p=none){c:Ce}(hc:c.fz=false)(ok:bz G ({w with hid:=mG}.up p) H p c):HR G ({w with hid:=mG}.up p) (S++[c]) H:=by
 have hp:w.hid p=some o:=by rw[e0];exact aq
 have Fp:∀i,e_ S i->w.ρ i≠p:=λi l z=>by have:=h.ku i l;rw[z,hp] at this;cases this
 have lv:=yJ (S:=S) hc
 have le:=({w with hid:=mG}:Wd).uq p
 have iS:∀i,i<S.length->(if i=w.n then p else w.ρ i)=w.ρ i:=λi hi=>by rw[if_neg (by rw[h.n];omega)]
 have qN:(if S.length=w.n then p else w.ρ S.length)=p:=by rw[if_pos h.n.symm]
 refine⟨h.K,by show w.n+1=_;simp[h.n],?_,λi d e=>?_,λi j li lj e=>?_,λb u e=>?_,λi li=>?_,λb xs (e:mG b=_)=>h.hl b xs (by rw[e0,av λz=>by rw[z,hp0] at e;cases e];exact e)⟩
 ·show w.F=Fz (λi=>if i=w.n then p else w.ρ i) mG (S++[c]) H
  rw[h.F];funext b
  unfold Fz;by_cases hb:b=p
  ·subst hb
   rw[if_pos (.inr (by rw[hp];simp)),if_pos (.inl ⟨S.length,(lv _).mpr (.inr rfl),qN⟩)]
  ·have W3:(∃i,e_ (S++[c]) i/\(if i=w.n then p else w.ρ i)=b)↔∃i,e_ S i/\w.ρ i=b:=by
    constructor
    ·rintro⟨i,li,e⟩
     rcases (lv i).mp li with l|rfl
     ·rw[iS i l.lt] at e
      exact⟨i,l,e⟩
     ·rw[qN] at e;exact absurd e.symm hb
    ·rintro⟨i,l,e⟩
     exact⟨i,(lv i).mpr (.inl l),by rw[iS i l.lt];exact e⟩
   have eh:w.hid b=mG b:=by rw[e0,av hb]
   by_cases hx:(∃i,e_ S i/\w.ρ i=b)\/w.hid b≠none
   ·rw[if_pos hx,if_pos (hx.imp W3.mpr λz=>by rw[<-eh];exact z)]
   ·rw[if_neg hx,if_neg (λz=>hx (z.imp W3.mp λz=>by rw[eh];exact z))]
 ·by_cases hi:i<S.length
  ·rw[zal hi] at e
   show bz G _ H (if i=w.n then p else w.ρ i) d
   rw[iS i hi];exact ((h.cell i d e).bg (hid:=mG) λu eu=>eu).mono le λu eu=>eu
  ·rw[zau (by omega)] at e
   have h0:i - S.length<1:=by simpa using (zae.mp e).1
   have h1:i=S.length:=by omega
   subst h1;simp at e
   subst e;show bz G _ H (if S.length=w.n then p else w.ρ S.length) c
   rw[qN];exact ok
 ·have e:(if i=w.n then p else w.ρ i)=(if j=w.n then p else w.ρ j):=e
  rcases (lv i).mp li with l|rfl
  ·rcases (lv j).mp lj with l' | rfl
   ·rw[iS i l.lt,iS j l'.lt] at e
    exact h.inj i j l l' e
   ·rw[iS i l.lt,qN] at e
    exact absurd e (Fp i l)
  ·rcases (lv j).mp lj with l' | rfl
   ·rw[qN,iS j l'.lt] at e
    exact absurd e.symm (Fp j l')
   ·rfl
 ·have e2:mG b=some u:=e
  have nb:b≠p:=λz=>by rw[z,hp0] at e2;cases e2
  exact h.hid b u (by rw[e0,av nb];exact e2)
 ·show mG (if i=w.n then p else w.ρ i)=none
  rcases (lv i).mp li with l|rfl
  ·rw[iS i l.lt]
   have:=h.ku i l
   rw[e0,av (Fp i l)] at this;exact this
  ·rw[qN];exact hp0
theorem abV {ρ:Nat->Addr}{hid:Hp}{m:Nat}:∀b o,Fz ρ hid S H b=some o->Fz ρ hid (S.take m) H b=some o:=λb o e=>by
 unfold Fz at e ⊢
 split at e
 ·cases e
 ·rename_i hn
  rw[if_neg]
  ·exact e
  ·rintro (⟨i,⟨c,ei,n⟩,r⟩|z)
   ·have hi:=(zae.mp ei).1
    rw[zaU] at hi;rw[zbN (by omega)] at ei
    exact hn (.inl ⟨i,⟨c,ei,n⟩,r⟩)
   ·exact hn (.inr z)
theorem HR.cut (h:HR G w S H){m:Nat}(hm:m<=S.length)(hb:∀i c,(S.take m)[i]? = some c->bz G {w with n:=m,F:=Fz w.ρ w.hid (S.take m) H} H (w.ρ i) c):HR G {w with n:=m,F:=Fz w.ρ w.hid (S.take m) H} (S.take m) H:=by
 have lv:∀i,e_ (S.take m) i->e_ S i:=λi ⟨c,e,n⟩=>⟨c,by
  have hi:=(zae.mp e).1
  rw[zaU] at hi;rw[zbN (by omega)] at e
  exact e,n⟩
 exact⟨h.K,by simp;omega,rfl,hb,λi j li lj e=>h.inj i j (lv i li) (lv j lj) e,h.hid,λi l=>h.ku i (lv i l),h.hl⟩
inductive R (α:Type) where
 |ok (a:α) (s:Cs)|ex (n:Nat) (s:Cs)|ay
noncomputable def R.az {α β:Type}(r:R α)(k:α -> Cs->R β):R β:= match r with|.ok a s=>k a s|.ex n s=>.ex n s|.ay=>.ay
theorem R.dY {α β:Type}(a:α)(s:Cs)(k:α -> Cs->R β):(R.ok a s).az k=k a s:=rfl
theorem R.Av {α β:Type}(k:α -> Cs->R β):(R.ay:R α).az k = .ay:=rfl
noncomputable def xG {α:Type}(c:Prop)(a b:α):α:= @ite α c (Classical.propDecidable c) a b
theorem Aw {α:Type}{c:Prop}(h:c)(a b:α):xG c a b=a:=by unfold xG;rw[if_pos h]
theorem aii {α:Type}(a b:α):xG True a b=a:=Aw trivial a b
inductive RS where
 |nx (τ:List (Option Tr)) (s:Cs)|rt (t:Tr) (s:Cs)|bk (τ:List (Option Tr)) (s:Cs)|ct (τ:List (Option Tr)) (s:Cs)|ex (n:Nat) (s:Cs)|ay
noncomputable abbrev En:=List (Option Tr)
noncomputable abbrev Em:=En->Cs->R Tr
noncomputable abbrev Sm:=En->Cs->RS
structure Sl (w:Wd) (τ:En) (σ:St):Prop where
 len:τ.length=σ.length
 tQ:∀(i:Nat) (t:Tr),τ[i]? = some (some t)->∃v,σ[i]? = some (some v)/\RT w t v
theorem Sl.mono {w w':Wd}(le:w.le w'){τ:En}{σ:St}(h:Sl w τ σ):Sl w' τ σ:= ⟨h.len,λi t e=>let ⟨v,e2,r⟩:=h.tQ i t e;⟨v,e2,RT.mono le t v r⟩⟩
theorem Sl.set (h:Sl w τ σ)(i:Nat)(r:RT w t v):Sl w (τ.set i (some t)) (σ.set i (some v)):=by
 refine⟨by simp[h.len],λj u e=>?_⟩
 by_cases hj:i=j
 ·subst hj
  have hi:i<τ.length:=by
   have:=(zae.mp e).1
   simpa using this
  rw[zaM hi] at e;cases e;exact⟨v,by rw[zaM (by rw[<-h.len];exact hi)],r⟩
 ·rw[zaK hj] at e
  rw[zaK hj];exact h.tQ j u e
def ur (G:Gx)(w:Wd)(n:Nat)(S':Cs):Prop:=∃c fs,S'[n]? = some (.xD c fs)/\∀w' H',w.le w'->HR G w' S' H'->G.E (.ref (G.cl c)) (some (w'.ρ n)) H'
theorem ur.mono {G:Gx}{w w1:Wd}(le:w.le w1){n:Nat}{S:Cs}(h:ur G w n S):ur G w1 n S:=let ⟨c,fs,e,k⟩:=h;⟨c,fs,e,λw' H' l hr=>k w' H' (le.trans l) hr⟩
def aZ {α β:Type}(jF:Wd -> α -> β -> Prop)(G:Gx)(w:Wd)(r:R α)(Q:β -> Hp->Prop):Prop:=match r with
 |.ok a S'=>∀w' H' b,w.le w'->HR G w' S' H'->jF w' a b->Q b H'
 |.ex n S'=>ur G w n S'
 |.ay=>False
theorem aZ.mono {α β:Type}{jF:Wd -> α -> β -> Prop}{G:Gx}{w:Wd}{r:R α}{Q Q' : β -> Hp->Prop}(h:aZ jF G w r Q)(k:∀b H,Q b H->Q' b H):aZ jF G w r Q':=by
 cases r with
 |ok a S=>exact λw' H' b le hr rl=>k _ _ (h w' H' b le hr rl)
 |ex n S=>exact h
 |ay=>exact h
theorem aZ.wd {α β:Type}{jF:Wd -> α -> β -> Prop}{G:Gx}{w w1:Wd}(le:w.le w1){r:R α}{Q:β -> Hp->Prop}(h:aZ jF G w r Q):aZ jF G w1 r Q:=by
 cases r with
 |ok a S=>exact λw' H' b l hr rl=>h w' H' b (le.trans l) hr rl
 |ex n S=>exact ur.mono le h
 |ay=>exact h
theorem aZ.az {α β γ δ:Type}{jF:Wd -> α -> β -> Prop}{aij:Wd -> γ -> δ -> Prop}{G:Gx}{w:Wd}{r:R α}{k:α -> Cs->R γ}{Q:δ -> Hp->Prop}(h:aZ aij G w (r.az k) Q):
  aZ jF G w r (λb H1=>∃w1 S1 a,w.le w1/\HR G w1 S1 H1/\jF w1 a b/\r = .ok a S1/\aZ aij G w1 (k a S1) Q):=by
 cases r with
 |ok a S=>exact λw' H' b le hr rl=>⟨w',S,a,le,hr,rl,rfl,aZ.wd le h⟩
 |ex n S=>exact h
 |ay=>exact h
def bV (G:Gx)(w:Wd)(r:RS)(D:BP):Prop:=match r with
 |.nx τ S'=>∀w' H' eV,w.le w'->HR G w' S' H'->Sl w' τ eV->D.nx eV H'
 |.bk τ S'=>∀w' H' eV,w.le w'->HR G w' S' H'->Sl w' τ eV->D.bk eV H'
 |.ct τ S'=>∀w' H' eV,w.le w'->HR G w' S' H'->Sl w' τ eV->D.ct eV H'
 |.rt t S'=>∀w' H' v,w.le w'->HR G w' S' H'->RT w' t v->D.rt v H'
 |.ex n S'=>ur G w n S'
 |.ay=>False
theorem bV.wd {G:Gx}{w w1:Wd}(le:w.le w1){r:RS}{D:BP}(h:bV G w r D):bV G w1 r D:=by
 cases r with
 |nx τ S=>exact λw' H' b l hr rl=>h w' H' b (le.trans l) hr rl
 |bk τ S=>exact λw' H' b l hr rl=>h w' H' b (le.trans l) hr rl
 |ct τ S=>exact λw' H' b l hr rl=>h w' H' b (le.trans l) hr rl
 |rt τ S=>exact λw' H' b l hr rl=>h w' H' b (le.trans l) hr rl
 |ex n S=>exact ur.mono le h
 |ay=>exact h
noncomputable def R.bQ {α:Type}(r:R α)(k:α -> Cs->RS):RS:=match r with|.ok a s=>k a s|.ex n s=>.ex n s|.ay=>.ay
theorem R.gE {α:Type}(a:α)(s:Cs)(k:α -> Cs->RS):(R.ok a s).bQ k=k a s:=rfl
theorem R.T7 {α:Type}(n:Nat)(s:Cs)(k:α -> Cs->RS):(R.ex n s:R α).bQ k = .ex n s:=rfl
theorem R.Cj {α:Type}(k:α -> Cs->RS):(R.ay:R α).bQ k = .ay:=rfl
theorem bV.az {α β:Type}{jF:Wd -> α -> β -> Prop}{G:Gx}{w:Wd}{r:R α}{k:α -> Cs->RS}{D:BP}(h:bV G w (r.bQ k) D):
  aZ jF G w r (λb H1=>∃w1 S1 a,w.le w1/\HR G w1 S1 H1/\jF w1 a b/\r = .ok a S1/\bV G w1 (k a S1) D):=by
 cases r with
 |ok a S=>exact λw' H' b le hr rl=>⟨w',S,a,le,hr,rl,rfl,bV.wd le h⟩
 |ex n S=>exact h
 |ay=>exact h
structure jU (G:Gx) (k:Nat) (X:Cx):Prop where
 K:X.K=G.K
 d9:0<k->X.d9=true
 room:0<k->gU k X.A
 un:X.A.units+200<cLine
theorem jU.hu (o:jU G k X):X.A.units+100<cLine:=by have:=o.un;omega
theorem jU.W4 (o:jU G k X):X.A.units+1<cLine:=by have:=o.hu;omega
def dU (G:Gx)(f:Em):TE:=λσ H Q=>∃w S τ,HR G w S H/\Sl w τ σ /\ aZ RT G w (f τ S) Q
def Ck (G:Gx)(f:En->Cs->R Bool):TT:=λσ H Q=>∃w S τ,HR G w S H/\Sl w τ σ /\ aZ (λ_ a b=>a=b) G w (f τ S) Q
def Ft (G:Gx)(f:En->Cs->R (List Tr)):TA:=λσ H Q=>∃w S τ,HR G w S H/\Sl w τ σ /\ aZ bG G w (f τ S) Q
def Nz (G:Gx)(f:Sm):TS:=λD σ H=>∃w S τ,HR G w S H/\Sl w τ σ /\ bV G w (f τ S) D
def abW (G:Gx)(f:Tr->En->Cs->R En):TG:=λv σ H Q=>∃w S τ t,HR G w S H/\Sl w τ σ /\ RT w t v/\aZ Sl G w (f t τ S) Q
structure TV (G:Gx) (k:Nat) (X:Cx) (e:Expr) (f:Em):Prop where
 kY:jU G k X->PE X e (dU G f)
instance {G:Gx}{k:Nat}{X:Cx}{e:Expr}{f:Em}:CoeFun (TV G k X e f) (λ_=>jU G k X->PE X e (dU G f)):=⟨TV.kY⟩
structure Cm (G:Gx) (k:Nat) (X:Cx) (e:Expr) (f:En->Cs->R Bool):Prop where
 kY:jU G k X->PT X e (Ck G f)
instance {G:Gx}{k:Nat}{X:Cx}{e:Expr}{f:En->Cs->R Bool}:CoeFun (Cm G k X e f) (λ_=>jU G k X->PT X e (Ck G f)):=⟨Cm.kY⟩
structure LM (G:Gx) (k:Nat) (X:Cx) (e:Expr) (f:En->Cs->R Bool):Prop where
 kY:jU G k X->PW X e (Ck G f)
instance {G:Gx}{k:Nat}{X:Cx}{e:Expr}{f:En->Cs->R Bool}:CoeFun (LM G k X e f) (λ_=>jU G k X->PW X e (Ck G f)):=⟨LM.kY⟩
structure xH (G:Gx) (k:Nat) (X:Cx) (es:List Expr) (f:En->Cs->R (List Tr)):Prop where
 kY:jU G k X->PA X es (Ft G f)
instance {G:Gx}{k:Nat}{X:Cx}{es:List Expr}{f:En->Cs->R (List Tr)}:CoeFun (xH G k X es f) (λ_=>jU G k X->PA X es (Ft G f)):=⟨xH.kY⟩
structure xJ (G:Gx) (k:Nat) (X:Cx) (st:Stmt) (f:Sm):Prop where
 kY:jU G k X->PS X st (Nz G f)
instance {G:Gx}{k:Nat}{X:Cx}{st:Stmt}{f:Sm}:CoeFun (xJ G k X st f) (λ_=>jU G k X->PS X st (Nz G f)):=⟨xJ.kY⟩
structure J_ (G:Gx) (k:Nat) (X:Cx) (st:List Stmt) (f:Sm):Prop where
 kY:jU G k X->yf X st (Nz G f)
instance {G:Gx}{k:Nat}{X:Cx}{st:List Stmt}{f:Sm}:CoeFun (J_ G k X st f) (λ_=>jU G k X->yf X st (Nz G f)):=⟨J_.kY⟩
structure Ka (G:Gx) (k:Nat) (X:Cx) (tg:Expr) (f:Tr->En->Cs->R En):Prop where
 kY:jU G k X->PG X tg (abW G f)
instance {G:Gx}{k:Nat}{X:Cx}{tg:Expr}{f:Tr->En->Cs->R En}:CoeFun (Ka G k X tg f) (λ_=>jU G k X->PG X tg (abW G f)):=⟨Ka.kY⟩
section
variable {X:Cx}{e:Expr}{st:Stmt}{sts:List Stmt}{es:List Expr}
theorem PE.wk {t t':TE}(h:PE X e t)(g:∀ σ H Q,t' σ H Q->t σ H Q):PE X e t':=λah s σ H Q I q=>h ah s σ H Q I (g _ _ _ q)
theorem PT.wk {t t':TT}(h:PT X e t)(g:∀ σ H Q,t' σ H Q->t σ H Q):PT X e t':=λah s σ H Q I q=>h ah s σ H Q I (g _ _ _ q)
theorem PW.wk {t t':TT}(h:PW X e t)(g:∀ σ H Q,t' σ H Q->t σ H Q):PW X e t':=λwh ah s σ H Q I q=>h wh ah s σ H Q I (g _ _ _ q)
theorem PA.wk {t t':TA}(h:PA X es t)(g:∀ σ H Q,t' σ H Q->t σ H Q):PA X es t':=λpos ah s σ H Q I q=>h pos ah s σ H Q I (g _ _ _ q)
theorem PS.wk {t t':TS}(h:PS X st t)(g:∀D σ H,t' D σ H->t D σ H):PS X st t':=λah s σ H D I q=>h ah s σ H D I (g _ _ _ q)
theorem yf.wk {t t':TS}(h:yf X sts t)(g:∀D σ H,t' D σ H->t D σ H):yf X sts t':=λah s σ H D I q=>h ah s σ H D I (g _ _ _ q)
theorem PG.wk {t t':TG}(h:PG X e t)(g:∀v σ H Q,t' v σ H Q->t v σ H Q):PG X e t':=λah s σ H v u Q I r q=>h ah s σ H v u Q I r (g _ _ _ _ q)
end
noncomputable def dH:Expr->Bool|.Starred _ _=>true|_=>false
noncomputable def dD:List Expr->Bool|[]=>true|e::r=>!dH e && dD r
theorem cU {e:Expr}{es:List Expr}{env:Env}(h:dH e=false):starEach (e::es) env=(false,eval e env)::starEach es env:=by
 cases e<;>first|rfl | (cases h;done)
theorem f6:∀{es:List Expr},dD es=true->(backTo pos (starEach es env)).any (·.1)=false
 |[],_=>rfl
 |e::es,h=>by
  have h:=zbC.mp (show (!dH e && dD es)=true from h)
  rw[cU (by simpa using h.1)]
  show (false || (backTo pos (starEach es env)).any (·.1))=false
  rw[f6 h.2];rfl
theorem Cn:∀{es:List Expr},dD es=true->(backTo pos (starEach es env)).all (λx=>!x.1)=true
 |[],_=>rfl
 |e::es,h=>by
  have h:=zbC.mp (show (!dH e && dD es)=true from h)
  rw[cU (by simpa using h.1)]
  show (true && (backTo pos (starEach es env)).all (λx=>!x.1))=true
  rw[Cn h.2];rfl
section
variable {G:Gx}{k:Nat}{X:Cx}{a b c:Expr}{fa fb fc:Em}{pos Nh:Pos}
noncomputable def aa (i:Nat):Em:=λτ S=>match τ[i]? with|some (some t)=>.ok t S|_=>.ay
noncomputable def mC (t:Tr):Em:=λ_ S=>.ok t S
theorem di (i:Nat)(hN:X.N[i]? = some x:=by rfl)(hv:Vis X.env.scope x:=by first|exact Or.inl rfl|exact Or.inr (Or.inl rfl)|exact Or.inr (Or.inr rfl))(hd:(x == ("__debug__":Str))=false:=by decide)
  (BQ:(x == ("__classdict__":Str))=false:=by decide):TV G k X (.Name x pos) (aa i):=.mk<|λ_=>(L4 hN hv hd BQ).wk λσ H Q h=>by
 obtain⟨w,S,τ,hr,sl,q⟩:=h;unfold aa at q;split at q
 ·rename_i t e
  obtain⟨v,e2,r⟩:=sl.tQ i t e;exact⟨v,e2,q w H v (.refl w) hr r⟩
 ·exact q.elim
theorem NC (h:PE X e (tC v))(r:∀w:Wd,w.K=G.K->RT w t v):TV G k X e (mC t):=.mk<|λ_=>h.wk λσ H Q h=>by
 obtain⟨w,S,τ,hr,sl,q⟩:=h;exact q w H v (.refl w) hr (r w hr.K)
theorem dZ:RT w (.int i) (.int i):=by unfold RT;rfl
theorem lq:RT w (.str i) (.str i):=by unfold RT;rfl
theorem gF {w:Wd}{i:Bool}:RT w (.bl i) (.bl i):=by unfold RT;rfl
theorem qO:RT w .bq .bq:=by unfold RT;rfl
theorem abX {i j pos}:TV G k X (.Constant (.int i) j pos) (mC (.int i)):=NC aas λ_ _=>dZ
theorem yK {i j pos}:TV G k X (.Constant (.bool i) j pos) (mC (.bl i)):=NC agR λ_ _=>gF
theorem abY {i j pos}:TV G k X (.Constant (.str i) j pos) (mC (.str i)):=NC aau λ_ _=>lq
theorem Fv {j pos}:TV G k X (.Constant .none j pos) (mC .bq):=NC aat λ_ _=>qO
theorem cE (hm:X.mg x=some (.int i tk))(hg:Gl X x:=by rfl)(hd:(x == ("__debug__":Str))=false:=by decide):TV G k X (.Name x pos) (mC (.int i)):=NC (Sb (v:=.int i) hg hm ⟨_,rfl⟩ hd) λ_ _=>dZ
def ai (g:Tr->Tr->Cs->R Tr)(fa fb:Em):Em:=λτ S=>(fa τ S).az λt1 S1=>(fb τ S1).az λt2 S2=>g t1 t2 S2
def T8 (g:Tr->Cs->R Tr)(fa:Em):Em:=λτ S=>(fa τ S).az λt1 S1=>g t1 S1
def r2 (G:Gx)(g:Tr->Tr->Cs->R Tr):R2:=λx y H Q=>∃w S t1 t2,HR G w S H/\RT w t1 x/\RT w t2 y/\aZ RT G w (g t1 t2 S) Q
noncomputable def r1 (G:Gx)(g:Tr->Cs->R Tr):V->Hp->VK->Prop:=λx H Q=>∃w S t1,HR G w S H/\RT w t1 x/\aZ RT G w (g t1 S) Q
theorem mV {g:Tr->Tr->Cs->R Tr}{σ:St}{H:Hp}{Q:VK}(h:dU G (ai g fa fb) σ H Q):tOp (r2 G g) (dU G fa) (dU G fb) σ H Q:=by
 obtain⟨w,S,τ,hr,sl,q⟩:=h;refine⟨w,S,τ,hr,sl,(aZ.az q).mono λx H1 bU=>?_⟩
 obtain⟨w1,S1,t1,cX,bH,r1,_,q1⟩:=bU;exact⟨w1,S1,τ,bH,sl.mono cX,(aZ.az q1).mono λy H2 dh=>by obtain⟨w2,S2,t2,fj,dI,r2,_,q2⟩:=dh;exact⟨w2,S2,t1,t2,dI,RT.mono fj _ _ r1,r2,q2⟩⟩
structure oz (G:Gx) (k:Nat) (f:Value->Value->Sem Value) (g:Tr->Tr->Cs->R Tr):Prop where
 kY:∀X:Cx,jU G k X->kU X f (r2 G g)
instance {G:Gx}{k:Nat}{f:Value->Value->Sem Value}{g:Tr->Tr->Cs->R Tr}:CoeFun (oz G k f g) (λ_=>∀X:Cx,jU G k X->kU X f (r2 G g)):=⟨oz.kY⟩
theorem ND (ho:oz G k (binaryOp op) g)(ha:TV G k X a fa)(hb:TV G k X b fb):TV G k X (.BinOp a op b pos) (ai g fa fb):=.mk<|λo =>
 (ag7 (ho X o) (ha o) (hb o)).wk λ_ _ _ h=>mV h
theorem aik {op:UnaryOp}{g:Tr->Cs->R Tr}(ho:∀X:Cx,jU G k X->UnR X (unaryOp op) (r1 G g))(ha:TV G k X a fa):TV G k X (.UnaryOp op a pos) (T8 g fa):=.mk<|λo =>
 (ag8 (ho X o) (ha o)).wk λσ H Q h=>by
  obtain⟨w,S,τ,hr,sl,q⟩:=h;exact⟨w,S,τ,hr,sl,(aZ.az q).mono λx H1 eZ=>by obtain⟨w1,S1,t1,cX,bH,r1,_,q1⟩:=eZ;exact⟨w1,S1,t1,bH,r1,q1⟩⟩
theorem iK (ho:oz G k (compareOp op) g)(ha:TV G k X a fa)(hb:TV G k X b fb)(hm:behindInMarks op b=false):TV G k X (.Compare a [op] [b] pos) (ai g fa fb):=.mk<|λo =>
 (Su (ho X o) (ha o) (hb o) hm).wk λ_ _ _ h=>mV h
def mW (g g':Tr->Tr->Cs->R Tr)(fa fb fc:Em):Em:=λτ S=>(fa τ S).az λt1 S1=>(fb τ S1).az λt2 S2=>(g t1 t2 S2).az λz S3=>match z with
 |.bl true=>(fc τ S3).az λt3 S4=>g' t2 t3 S4
 |.bl false=>.ok (.bl false) S3
 |_=>.ay
theorem Co {g g':Tr->Tr->Cs->R Tr}{σ:St}{H:Hp}{Q:VK}(h:dU G (mW g g' fa fb fc) σ H Q):ET (r2 G g) (r2 G g') (dU G fa) (dU G fb) (dU G fc) σ H Q:=by
 obtain⟨w,S,τ,hr,sl,q⟩:=h;refine⟨w,S,τ,hr,sl,(aZ.az q).mono λx H1 mS=>?_⟩
 obtain⟨w1,S1,t1,cX,bH,r1,_,q1⟩:=mS;refine⟨w1,S1,τ,bH,sl.mono cX,(aZ.az q1).mono λy H2 jg=>?_⟩
 obtain⟨w2,S2,t2,fj,dI,r2,_,q2⟩:=jg;refine⟨w2,S2,t1,t2,dI,RT.mono fj _ _ r1,r2,(aZ.az q2).mono λz H3 ki=>?_⟩
 obtain⟨w3,S3,t3,jb,nH,r3,_,q3⟩:=ki;split at q3
 ·unfold RT at r3
  subst r3;refine⟨true,rfl,B8 ⟨w3,S3,τ,nH,(sl.mono cX).mono (fj.trans jb),(aZ.az q3).mono λu H4 gD=>by obtain⟨w4,S4,t4,NF,HA,r4,_,q4⟩:=gD;exact⟨w4,S4,t2,t4,HA,RT.mono (jb.trans NF) _ _ r2,r4,q4⟩⟩⟩
 ·unfold RT at r3
  subst r3;exact⟨false,rfl,B7 (q3 w3 H3 _ (.refl _) nH gF)⟩
 ·exact q3.elim
theorem NG (ho:oz G k (compareOp op) g)(sQ:oz G k (compareOp Mi) g')(ha:TV G k X a fa)(hb:TV G k X b fb)(hc:TV G k X c fc)(hm:lastMarks [op,Mi] [b,c]=false:=by with_unfolding_all rfl):
  TV G k X (.Compare a [op,Mi] [b,c] pos) (mW g g' fa fb fc):=.mk<|λo=>(Mh (ho X o) (sQ X o) (ha o) (hb o) (hc o) hm).wk λ_ _ _ h=>Co h
def mB (f:Em):En->Cs->R Bool:=λτ S=>(f τ S).az λt S1=>match t with|.bl b=>.ok b S1|_=>.ay
theorem pP {f:Em}{σ:St}{H:Hp}{Q:Bool->Hp->Prop}(h:Ck G (mB f) σ H Q):dU G f σ H λx H1=>∃c,x = .bl c/\Q c H1:=by
 obtain⟨w,S,τ,hr,sl,q⟩:=h;refine⟨w,S,τ,hr,sl,(aZ.az q).mono λx H1 kC=>?_⟩
 obtain⟨w1,S1,t1,cX,bH,r1,_,q1⟩:=kC;split at q1
 ·unfold RT at r1
  subst r1;exact⟨_,rfl,q1 w1 H1 _ (.refl _) bH rfl⟩
 ·exact q1.elim
theorem uv (h:TV G k X e f)(he:∀tL,isTrue e X.env tL=(do let v <-tL;standAt e.pos;holding [v] (truthy v)):=by intro _;rfl):Cm G k X e (mB f):=.mk<|λo=>(aaw (h o) he).wk λ_ _ _ h=>pP h
theorem iM (ho:oz G k (compareOp op) g)(ha:TV G k X a fa)(hb:TV G k X b fb)(hm:behindInMarks op b=false):Cm G k X (.Compare a [op] [b] pos) (mB (ai g fa fb)):=.mk<|λo =>
 (Sv (ho X o) (ha o) (hb o) hm).wk λ_ _ _ h=>mV (pP h)
theorem Cp (ho:oz G k (compareOp op) g)(sQ:oz G k (compareOp Mi) g')(ha:TV G k X a fa)(hb:TV G k X b fb)(hc:TV G k X c fc)(hm:lastMarks [op,Mi] [b,c]=false:=by with_unfolding_all rfl):
  Cm G k X (.Compare a [op,Mi] [b,c] pos) (mB (mW g g' fa fb fc)):=.mk<|λo=>(Mj (ho X o) (sQ X o) (ha o) (hb o) (hc o) hm).wk λ_ _ _ h=>Co (pP h)
variable {ta tb:En->Cs->R Bool}{dg:List Expr}
def nX (ta tb:En->Cs->R Bool):En->Cs->R Bool:=λτ S=>(ta τ S).az λx S1=>if x=true then tb τ S1 else .ok false S1
def Fw (ta tb:En->Cs->R Bool):En->Cs->R Bool:=λτ S=>(ta τ S).az λx S1=>if x=true then .ok true S1 else tb τ S1
def xK (ta:En->Cs->R Bool):En->Cs->R Bool:=λτ S=>(ta τ S).az λx S1=>.ok (!x) S1
theorem NH (ha:Cm G k X a ta):Cm G k X (.UnaryOp .Not a pos) (xK ta):=.mk<|λo=>(aaz (ha o)).wk λσ H Q h=>by
 obtain⟨w,S,τ,hr,sl,q⟩:=h;refine⟨w,S,τ,hr,sl,(aZ.az q).mono λx H1 Cq=>?_⟩
 obtain⟨w1,S1,t1,cX,bH,r1,_,q1⟩:=Cq;subst r1;exact q1 w1 H1 _ (.refl _) bH rfl
theorem T9 (ha:Cm G k X a ta):LM G k X (.BoolOp .And [a] pos) ta:=.mk<|λo=>Se (ha o)
theorem NI (ha:Cm G k X a ta):LM G k X (.BoolOp .Or [a] pos) ta:=.mk<|λo=>aax (ha o)
theorem abZ (ha:Cm G k X a ta)(hb:LM G k X (.BoolOp .And (b::dg) pos) tb):LM G k X (.BoolOp .And (a::b::dg) pos) (nX ta tb):=.mk<|λo=>(aay (ha o) (hb o)).wk λσ H Q h=>by
 obtain⟨w,S,τ,hr,sl,q⟩:=h;refine⟨w,S,τ,hr,sl,(aZ.az q).mono λx H1 pQ=>?_⟩
 obtain⟨w1,S1,t1,cX,bH,r1,_,q1⟩:=pQ;subst r1;cases t1 with
 |true=>rw[if_pos rfl] at q1;exact B8 ⟨w1,S1,τ,bH,sl.mono cX,q1⟩
 |false=>rw[if_neg zai] at q1;exact B7 (q1 w1 H1 _ (.refl _) bH rfl)
theorem W5 (ha:Cm G k X a ta)(hb:LM G k X (.BoolOp .Or (b::dg) pos) tb):LM G k X (.BoolOp .Or (a::b::dg) pos) (Fw ta tb):=.mk<|λo=>(agS (ha o) (hb o)).wk λσ H Q h=>by
 obtain⟨w,S,τ,hr,sl,q⟩:=h;refine⟨w,S,τ,hr,sl,(aZ.az q).mono λx H1 ly=>?_⟩
 obtain⟨w1,S1,t1,cX,bH,r1,_,q1⟩:=ly;subst r1;cases t1 with
 |true=>rw[if_pos rfl] at q1;exact B8 (q1 w1 H1 _ (.refl _) bH rfl)
 |false=>rw[if_neg zai] at q1;exact B7 ⟨w1,S1,τ,bH,sl.mono cX,q1⟩
theorem LM.t (h:LM G k X e ta):Cm G k X e ta:=.mk<|λo=>(h o).pt
def lz (fa fb:Em):Em:=λτ S=>(fa τ S).az λt S1=>match t with|.bl true=>fb τ S1|.bl false=>.ok (.bl false) S1|_=>.ay
def W6 (fa fb:Em):Em:=λτ S=>(fa τ S).az λt S1=>match t with|.bl true=>.ok (.bl true) S1|.bl false=>fb τ S1|_=>.ay
def Kc (fa:Em):Em:=λτ S=>(fa τ S).az λt S1=>match t with|.bl b=>.ok (.bl (!b)) S1|_=>.ay
def BG (ta:En->Cs->R Bool)(fa fb:Em):Em:=λτ S=>(ta τ S).az λx S1=>if x=true then fa τ S1 else fb τ S1
theorem Fx {op}(h:TV G k X a fa):TV G k X (.BoolOp op [a] pos) fa:=.mk<|λo=>aaA (h o)
theorem Ax (ha:TV G k X a fa)(hb:TV G k X (.BoolOp .And (b::dg) pos) fb):TV G k X (.BoolOp .And (a::b::dg) pos) (lz fa fb):=.mk<|λo=>(aaB (ha o) (hb o)).wk λσ H Q h=>by
 obtain⟨w,S,τ,hr,sl,q⟩:=h;refine⟨w,S,τ,hr,sl,(aZ.az q).mono λx H1 uw=>?_⟩
 obtain⟨w1,S1,t1,cX,bH,r1,_,q1⟩:=uw;split at q1
 ·unfold RT at r1;subst r1;exact⟨true,rfl,B8 ⟨w1,S1,τ,bH,sl.mono cX,q1⟩⟩
 ·unfold RT at r1;subst r1;exact⟨false,rfl,B7 (q1 w1 H1 _ (.refl _) bH gF)⟩
 ·exact q1.elim
theorem ail (ha:TV G k X a fa)(hb:TV G k X (.BoolOp .Or (b::dg) pos) fb):TV G k X (.BoolOp .Or (a::b::dg) pos) (W6 fa fb):=.mk<|λo=>(agV (ha o) (hb o)).wk λσ H Q h=>by
 obtain⟨w,S,τ,hr,sl,q⟩:=h;refine⟨w,S,τ,hr,sl,(aZ.az q).mono λx H1 lA=>?_⟩
 obtain⟨w1,S1,t1,cX,bH,r1,_,q1⟩:=lA;split at q1
 ·unfold RT at r1;subst r1;exact⟨true,rfl,B8 (q1 w1 H1 _ (.refl _) bH gF)⟩
 ·unfold RT at r1;subst r1;exact⟨false,rfl,B7 ⟨w1,S1,τ,bH,sl.mono cX,q1⟩⟩
 ·exact q1.elim
theorem Fy (ha:TV G k X a fa):TV G k X (.UnaryOp .Not a pos) (Kc fa):=.mk<|λo=>(aaC (ha o)).wk λσ H Q h=>by
 obtain⟨w,S,τ,hr,sl,q⟩:=h;refine⟨w,S,τ,hr,sl,(aZ.az q).mono λx H1 lB=>?_⟩
 obtain⟨w1,S1,t1,cX,bH,r1,_,q1⟩:=lB;split at q1
 ·unfold RT at r1;subst r1;exact⟨_,rfl,q1 w1 H1 _ (.refl _) bH gF⟩
 ·exact q1.elim
theorem ab0 (hc:Cm G k X c ta)(ha:TV G k X a fa)(hb:TV G k X b fb):TV G k X (.IfExp c a b pos) (BG ta fa fb):=.mk<|λo=>(L7 (hc o) (ha o) (hb o)).wk λσ H Q h=>by
 obtain⟨w,S,τ,hr,sl,q⟩:=h;refine⟨w,S,τ,hr,sl,(aZ.az q).mono λx H1 oQ=>?_⟩
 obtain⟨w1,S1,t1,cX,bH,r1,_,q1⟩:=oQ;subst r1;cases t1 with
 |true=>rw[if_pos rfl] at q1;exact B8 ⟨w1,S1,τ,bH,sl.mono cX,q1⟩
 |false=>rw[if_neg zai] at q1;exact B7 ⟨w1,S1,τ,bH,sl.mono cX,q1⟩
noncomputable def ak:En->Cs->R (List Tr):=λ_ S=>.ok [] S
def af (f:Em)(r:En->Cs->R (List Tr)):En->Cs->R (List Tr):=λτ S=>(f τ S).az λt S1=>(r τ S1).az λts S2=>.ok (t::ts) S2
theorem ux:xH G k X [] ak:=.mk<|λ_=>tT.wk λσ H Q h=>by
 obtain⟨w,S,τ,hr,sl,q⟩:=h;exact q w H [] (.refl w) hr .nil
theorem lC (ha:TV G k X e f)(hr:xH G k X es fr)(hs:dH e=false:=by rfl):xH G k X (e::es) (af f fr):=.mk<|λo=>(kX (ha o) (hr o) (cU hs)).wk λσ H Q h=>by
 obtain⟨w,S,τ,hr,sl,q⟩:=h;refine⟨w,S,τ,hr,sl,(aZ.az q).mono λx H1 oR=>?_⟩
 obtain⟨w1,S1,t1,cX,bH,r1,_,q1⟩:=oR;refine⟨w1,S1,τ,bH,sl.mono cX,(aZ.az q1).mono λxs H2 uy=>?_⟩
 obtain⟨w2,S2,ts,fj,dI,r2,_,q2⟩:=uy;exact q2 w2 H2 _ (.refl _) dI (.cons (RT.mono fj _ _ r1) r2)
def dm (fr:En->Cs->R (List Tr)):Em:=λτ S=>(fr τ S).az λts S1=>if ts.length<=sizeLine then .ok (.tp ts) S1 else .ay
def kD (fr:En->Cs->R (List Tr)):Em:=λτ S=>(fr τ S).az λts S1=>if ts.length<=sizeLine then .ok (.ls ts) S1 else .ay
def rP (fr:En->Cs->R (List Tr)):Em:=λτ S=>(fr τ S).az λts S1=>if ts.length<=sizeLine then .ok (.hd S1.length) (S1++[.bD ts]) else .ay
theorem HR.T_ {w:Wd}{S:Cs}{H:Hp}{ts:List Tr}{xs:List V}(hr:HR G w S H)(r:bG w ts xs){Q:VK}{S':Cs}(hS:S'=S)(q:aZ RT G w (.ok (.tp ts) S') Q):∀p,H p=none->Q (.ref p) (bf H p (.gn xs)):=λp hp=>by
 subst hS;obtain⟨h2,le⟩:=hr.W2 hp (.gn xs)
 refine q _ _ _ le h2 ?_
 unfold RT;exact⟨p,xs,rfl,aq,bG.mono le _ _ r⟩
theorem HR.jh {w:Wd}{S:Cs}{H:Hp}{ts:List Tr}{xs:List V}(hr:HR G w S H)(r:bG w ts xs){Q:VK}{S':Cs}(hS:S'=S)(q:aZ RT G w (.ok (.ls ts) S') Q):∀p,H p=none->Q (.ref p) (bf H p (.bD xs)):=λp hp=>by
 subst hS;obtain⟨h2,le⟩:=hr.W2 hp (.bD xs)
 refine q _ _ _ le h2 ?_
 unfold RT;exact⟨p,xs,rfl,aq,bG.mono le _ _ r⟩
theorem HR.aim {w:Wd}{S:Cs}{H:Hp}{ts:List Tr}{xs:List V}(hr:HR G w S H)(r:bG w ts xs){Q:VK}{S':Cs}{n:Nat}(hS:S'=S++[.bD ts])(hn:n=S.length)(q:aZ RT G w (.ok (.hd n) S') Q):∀p,H p=none->Q (.ref p) (bf H p (.bD xs)):=λp hp=>by
 subst hS hn;obtain⟨h2,le⟩:=hr.Fq (c:=.bD ts) hp (o:=.bD xs) rfl ⟨xs,aq,bG.mono (w.uq p) _ _ r⟩
 refine q _ _ _ le h2 ?_
 unfold RT;refine⟨by rw[<-hr.n];exact zbb _,?_⟩
 show V.ref p=V.ref (if S.length=w.n then p else w.ρ S.length)
 rw[if_pos hr.n.symm]
theorem ab1 {x1}(h:xH G k X es fr):TV G k X (.Tuple es x1 pos) (dm fr):=.mk<|λo=>(aaY (h o)).wk λσ H Q h=>by
 obtain⟨w,S,τ,hr,sl,q⟩:=h;refine⟨w,S,τ,hr,sl,(aZ.az q).mono λxs H1 uz=>?_⟩
 obtain⟨w1,S1,ts,cX,bH,r1,_,q1⟩:=uz;split at q1
 ·exact⟨by rw[r1.len];assumption,bH.T_ r1 rfl q1⟩
 ·exact q1.elim
theorem ab2 (h:xH G k X es fr):TV G k X (.List es pos) (kD fr):=.mk<|λo=>(Mp (h o)).wk λσ H Q h=>by
 obtain⟨w,S,τ,hr,sl,q⟩:=h;refine⟨w,S,τ,hr,sl,(aZ.az q).mono λxs H1 FA=>?_⟩
 obtain⟨w1,S1,ts,cX,bH,r1,_,q1⟩:=FA;split at q1
 ·exact⟨by rw[r1.len];assumption,bH.jh r1 rfl q1⟩
 ·exact q1.elim
theorem Ua (h:xH G k X es fr):TV G k X (.List es pos) (rP fr):=.mk<|λo=>(Mp (h o)).wk λσ H Q h=>by
 obtain⟨w,S,τ,hr,sl,q⟩:=h;refine⟨w,S,τ,hr,sl,(aZ.az q).mono λxs H1 ab3=>?_⟩
 obtain⟨w1,S1,ts,cX,bH,r1,_,q1⟩:=ab3;split at q1
 ·exact⟨by rw[r1.len];assumption,bH.aim r1 rfl rfl q1⟩
 ·exact q1.elim
end
noncomputable def cK (S:Cs)(n:Nat):Option (List Tr):=match S[n]? with|some (.bD l)=>some l|_=>none
noncomputable def pR (S:Cs)(n:Nat):Option (List (dF×Tr)):=match S[n]? with|some (.iy l)=>some l|_=>none
noncomputable def iT (S:Cs)(n:Nat):Option (Str×List (Str×Tr)):=match S[n]? with|some (.fH c l)=>some (c,l)|_=>none
theorem cG (h:cK S n=some l):S[n]? = some (.bD l):=by
 unfold cK at h;split at h
 ·cases h;assumption
 ·cases h
theorem gZ (h:pR S n=some l):S[n]? = some (.iy l):=by
 unfold pR at h;split at h
 ·cases h;assumption
 ·cases h
theorem fL (h:iT S n=some (c,l)):S[n]? = some (.fH c l):=by
 unfold iT at h;split at h
 ·cases h;assumption
 ·cases h
def Ez (S:Cs):Tr->Option (List Tr)
 |.ls l=>some l
 |.hd n=>cK S n
 |_=>none
def w9 (S:Cs):Tr->Option (List Tr)
 |.ls l=>some l
 |.kl l=>some l
 |.hd n=>cK S n
 |_=>none
noncomputable def R3:Tr->Option (List Tr)
 |.tp l=>some l
 |.kt l=>some l
 |_=>none
def Cr (S:Cs):Tr->Option (List Tr)
 |.tp l=>some l
 |.kt l=>some l
 |.ls l=>some l
 |.kl l=>some l
 |.hd n=>cK S n
 |_=>none
def LN (S:Cs):Tr->Option (List (dF×Tr))
 |.hd n=>pR S n
 |_=>none
theorem RT.cQ (r:RT w (.hd n) v):n<w.n/\v = .ref (w.ρ n):=by unfold RT at r;exact r
theorem oS (hr:HR G w S H)(r:RT w t v)(e:Ez S t=some l):∃a xs,v = .ref a/\H a=some (.bD xs)/\bG w l xs:=by
 cases t with
 |ls m =>
  cases e;unfold RT at r;obtain⟨a,xs,rfl,h,r⟩:=r;exact⟨a,xs,rfl,hr.sub _ _ h,r⟩
 |hd n =>
  obtain⟨xs,h1,h2⟩:=hr.cell n _ (cG e)
  exact⟨_,xs,r.cQ.2,h1,h2⟩
 |_=>cases e
theorem ji (hr:HR G w S H)(r:RT w t v)(e:w9 S t=some l):∃a xs,v = .ref a/\jy G.K H a xs/\bG w l xs:=by
 cases t with
 |ls m =>
  cases e;unfold RT at r;obtain⟨a,xs,rfl,h,r⟩:=r;exact⟨a,xs,rfl,jy.of (hr.sub _ _ h),r⟩
 |kl m =>
  cases e;unfold RT at r;obtain⟨a,xs,rfl,h,r⟩:=r;exact⟨a,xs,rfl,hr.sqL h,r⟩
 |hd n =>
  obtain⟨xs,h1,h2⟩:=hr.cell n _ (cG e)
  exact⟨_,xs,r.cQ.2,jy.of h1,h2⟩
 |_=>cases e
theorem jj (hr:HR G w S H)(r:RT w t v)(e:R3 t=some l):∃a xs,v = .ref a/\pA G.K H a xs/\bG w l xs:=by
 cases t with
 |tp m =>
  cases e;unfold RT at r;obtain⟨a,xs,rfl,h,r⟩:=r;exact⟨a,xs,rfl,pA.of (hr.sub _ _ h),r⟩
 |kt m =>
  cases e;unfold RT at r;obtain⟨a,xs,rfl,h,r⟩:=r;exact⟨a,xs,rfl,hr.sqT h,r⟩
 |_=>cases e
theorem Ay (hr:HR G w S H)(r:RT w t v)(e:Cr S t=some l):∃a xs,v = .ref a/\(jy G.K H a xs\/pA G.K H a xs)/\bG w l xs:=by
 cases t with
 |ls m=>obtain⟨a,xs,h1,h2,h3⟩:=ji hr r (l:=l) (e);exact⟨a,xs,h1,.inl h2,h3⟩
 |kl m=>obtain⟨a,xs,h1,h2,h3⟩:=ji hr r (l:=l) (e);exact⟨a,xs,h1,.inl h2,h3⟩
 |hd n=>obtain⟨a,xs,h1,h2,h3⟩:=ji hr r (l:=l) (e);exact⟨a,xs,h1,.inl h2,h3⟩
 |tp m=>obtain⟨a,xs,h1,h2,h3⟩:=jj hr r (l:=l) (e);exact⟨a,xs,h1,.inr h2,h3⟩
 |kt m=>obtain⟨a,xs,h1,h2,h3⟩:=jj hr r (l:=l) (e);exact⟨a,xs,h1,.inr h2,h3⟩
 |_=>cases e
theorem uA (hr:HR G w S H)(r:RT w t v)(e:LN S t=some m):∃n aI,t = .hd n/\S[n]? = some (.iy m)/\v = .ref (w.ρ n)/\H (w.ρ n)=some (.dK aI)/\RK w m aI:=by
 cases t with
 |hd n =>
  obtain⟨xs,h1,h2⟩:=hr.cell n _ (gZ e)
  exact⟨n,xs,rfl,gZ e,r.cQ.2,h1,h2⟩
 |_=>cases e
theorem bG.jG (h:bG w l xs)(e:L2.jG l i=some t):∃v,L2.jG xs i=some v/\RT w t v:=by
 unfold L2.jG at e ⊢
 rw[h.len];cases q:SY l.length i with
 |none=>rw[q] at e;cases e
 |some j=>rw[q] at e;exact h.get e
def fF:Tr->Tr->Cs->R Tr:=λt1 t2 S=>match t1,t2 with
 |.int i,.int j=>.ok (.int (i+j)) S
 |.str a,.str b=>if a.length+b.length<=sizeLine then .ok (.str (a++b)) S else .ay
 |.tp a,.tp b=>if a.isEmpty=false/\a.length+b.length<=sizeLine then .ok (.tp (a++b)) S else .ay
 |t1,t2=>match Ez S t1,Ez S t2 with
  |some a,some b=>if a.length+b.length<=sizeLine then .ok (.ls (a++b)) S else .ay
  |_,_=>.ay
noncomputable def gI (g:Int->Int->Tr):Tr->Tr->Cs->R Tr:=λt1 t2 S=>match t1,t2 with
 |.int i,.int j=>.ok (g i j) S
 |_,_=>.ay
noncomputable def LO (c:Int->Int->Bool)(g:Int->Int->Tr):Tr->Tr->Cs->R Tr:=λt1 t2 S=>match t1,t2 with
 |.int i,.int j=>if c i j=true then .ok (g i j) S else .ay
 |_,_=>.ay
noncomputable abbrev cY:=gI λi j=>.int (i - j)
noncomputable abbrev Ub:=LO (λ_ j=>decide (0<j/\j<1073741824)) λi j=>.int (i / j)
noncomputable abbrev qP:=LO (λ_ j=>decide (0<j)) λi j=>.int (i % j)
def sJ:Tr->Tr->Cs->R Tr:=λt1 t2 S=>match t1,t2 with
 |.int i,.int j=>xG ((-(2 ^ 64)<i/\i<2 ^ 64)\/(-(2 ^ 64)<j/\j<2 ^ 64)) (.ok (.int (i * j)) S) .ay
 |.str a,.int n=>if 0<=n/\n<1000000/\a.length * n.toNat<=1000000 then .ok (.str (pL a n.toNat)) S else .ay
 |_,_=>.ay
noncomputable abbrev W7:=gI λi j=>.bl (decide (i<j))
noncomputable abbrev gLe:=gI λi j=>.bl (decide (i<=j))
noncomputable abbrev gGt:=gI λi j=>.bl (decide (j<i))
noncomputable abbrev gGe:=gI λi j=>.bl (decide (j<=i))
noncomputable def Az:Tr->Cs->R Tr:=λt S=>match t with|.int i=>.ok (.int (-i)) S|_=>.ay
theorem aK (r:RT w (.int i) v):v = .int i:=by unfold RT at r;exact r
theorem b9 (r:RT w (.str i) v):v = .str i:=by unfold RT at r;exact r
theorem kE (r:RT w (.bl i) v):v = .bl i:=by unfold RT at r;exact r
theorem jk (r:RT w .bq v):v = .bq:=by unfold RT at r;exact r
theorem Ct (h:∀X:Cx,jU G k X->kU X f (Sn gv))(rg:∀(w:Wd) i j,RT w (g i j) (gv i j)):oz G k f (gI g):=.mk<|λX o ah s σ H x y v u Q I rx ry bU=>by
 obtain⟨w,S,t1,t2,hr,r1,r2,q⟩:=bU;unfold gI at q;split at q
 ·exact h X o ah s σ H x y v u Q I rx ry ⟨_,_,aK r1,aK r2,q w H _ (.refl w) hr (rg _ _ _)⟩
 ·exact q.elim
theorem NJ (h:∀X:Cx,jU G k X->kU X f (rI C gv))(hc:∀i j,c i j=true->C i j)(rg:∀(w:Wd) i j,RT w (g i j) (gv i j)):oz G k f (LO c g):=.mk<|λX o ah s σ H x y v u Q I rx ry dh=>by
 obtain⟨w,S,t1,t2,hr,r1,r2,q⟩:=dh;unfold LO at q;split at q
 ·split at q
  ·exact h X o ah s σ H x y v u Q I rx ry ⟨_,_,aK r1,aK r2,hc _ _ (by assumption),q w H _ (.refl w) hr (rg _ _ _)⟩
  ·exact q.elim
 ·exact q.elim
theorem aio:oz G k (binaryOp .Sub) cY:=Ct (λX _=>aaP) λ_ _ _=>dZ
theorem aip:oz G k (binaryOp .FloorDiv) Ub:=NJ (λX _=>Sq) (λi j h=>(of_decide_eq_true h:0<j/\j<1073741824)) λ_ _ _=>dZ
theorem aiq:oz G k (binaryOp .Mod) qP:=NJ (λX _=>aaR) (λi j h=>of_decide_eq_true h) λ_ _ _=>dZ
theorem NK:oz G k (compareOp .Lt) W7:=Ct (λX _=>ahc) λ_ _ _=>gF
theorem NL:oz G k (compareOp .LtE) gLe:=Ct (λX _=>ahd) λ_ _ _=>gF
theorem air:oz G k (compareOp .Gt) gGt:=Ct (λX _=>ahf) λ_ _ _=>gF
theorem ais:oz G k (compareOp .GtE) gGe:=Ct (λX _=>ahg) λ_ _ _=>gF
theorem ait:oz G k (binaryOp .Mult) sJ:=.mk<|λX o ah s σ H x y v u Q I rx ry eZ=>by
 obtain⟨w,S,t1,t2,hr,r1,r2,q⟩:=eZ;unfold sJ at q;split at q
 ·unfold xG at q
  split at q
  ·exact aaQ ah s σ H x y v u Q I rx ry ⟨_,_,aK r1,aK r2,(by assumption),q w H _ (.refl w) hr dZ⟩
  ·exact q.elim
 ·split at q
  ·rename_i h
   exact Fd ah s σ H x y v u Q I rx ry ⟨_,_,b9 r1,aK r2,h.1,h.2.1,h.2.2,q w H _ (.refl w) hr lq⟩
  ·exact q.elim
 ·exact q.elim
theorem aiu:oz G k (binaryOp .Add) fF:=.mk<|λX o ah s σ H x y v u Q I rx ry mS=>by
 obtain⟨w,S,t1,t2,hr,r1,r2,q⟩:=mS;unfold fF at q;split at q
 ·exact aaO ah s σ H x y v u Q I rx ry ⟨_,_,aK r1,aK r2,q w H _ (.refl w) hr dZ⟩
 ·split at q
  ·exact EU ah s σ H x y v u Q I rx ry ⟨_,_,b9 r1,b9 r2,(by assumption),q w H _ (.refl w) hr lq⟩
  ·exact q.elim
 ·split at q
  ·rename_i a b h
   obtain⟨p,xs,e1,s1,R1⟩:=jj hr r1 (l:=a) rfl
   obtain⟨p2,ys,e2,s2,R2⟩:=jj hr r2 (l:=b) rfl
   rw[<-o.K] at s1 s2;refine SX ah s σ H x y v u Q I rx ry ⟨p,p2,xs,ys,e1,e2,s1,s2,?_,by rw[R1.len,R2.len];exact h.2,λz=>?_,λz=>hr.T_ (R1.sI R2) rfl q⟩
   ·intro z
    have:=R1.len
    rw[z] at this;have h1:=h.1;cases a with
    |nil=>simp at h1
    |cons _ _=>simp at this
   ·have hb:b=[]:=by
     have:=R2.len
     rw[z] at this;cases b with
     |nil=>rfl
     |cons _ _=>simp at this
    subst hb;rw[zax] at q;rw[<-e1];exact q w H _ (.refl w) hr r1
  ·exact q.elim
 ·split at q
  ·rename_i a b ea eb
   split at q
   ·obtain⟨p,xs,e1,s1,R1⟩:=oS hr r1 ea
    obtain⟨p2,ys,e2,s2,R2⟩:=oS hr r2 eb;exact abj ah s σ H x y v u Q I rx ry ⟨p,p2,xs,ys,e1,e2,s1,s2,by rw[R1.len,R2.len];assumption,hr.jh (R1.sI R2) rfl q⟩
   ·exact q.elim
  ·exact q.elim
theorem aiv:∀X:Cx,jU G k X->UnR X (unaryOp .USub) (r1 G Az):=λX o ah s σ H x v Q I rx ki=>by
 obtain⟨w,S,t1,hr,r1,q⟩:=ki;unfold Az at q;split at q
 ·exact aaS ah s σ H x v Q I rx ⟨_,aK r1,q w H _ (.refl w) hr dZ⟩
 ·exact q.elim
noncomputable def NO:Tr->Tr->Option Bool
 |.int i,.int j=>some (decide (i=j))
 |.str i,.str j=>some (decide (i=j))
 |.bl i,.bl j=>some (i == j)
 |.bq,.bq=>some true
 |.bq,.int _=>some false
 |.int _,.bq=>some false
 |.bq,.bl _=>some false
 |.bl _,.bq=>some false
 |.bq,.str _=>some false
 |.str _,.bq=>some false
 |.int _,.str _=>some false
 |.str _,.int _=>some false
 |.bl _,.str _=>some false
 |.str _,.bl _=>some false
 |_,_=>none
mutual
noncomputable def Tr.qQ:Tr->Bool
 |.tp l=>Tr.pS l
 |.ls l=>Tr.pS l
 |.kt _=>false
 |.kl _=>false
 |.hd _=>false
 |_=>true
noncomputable def Tr.pS:List Tr->Bool
 |[]=>true
 |t::l=>Tr.qQ t && Tr.pS l
end
mutual
noncomputable def Tr.dp:Tr->Nat
 |.tp l=>Tr.EA l+1
 |.ls l=>Tr.EA l+1
 |_=>0
noncomputable def Tr.EA:List Tr->Nat
 |[]=>0
 |t::l=>max (Tr.dp t) (Tr.EA l)
end
mutual
noncomputable def Tr.dv:Tr->DV
 |.tp l=>.tp (Tr.LP l)
 |.ls l=>.ls (Tr.LP l)
 |.int i=>.fl (.int i)
 |.bl i=>.fl (.bl i)
 |.str i=>.fl (.str i)
 |_=>.fl .bq
noncomputable def Tr.LP:List Tr->List DV
 |[]=>[]
 |t::l=>Tr.dv t::Tr.LP l
end
mutual
theorem Tr.AA:∀t:Tr,DV.yF t.dv=t.dp
 |.tp l=>by unfold Tr.dv Tr.dp DV.yF;rw[Tr.AB l]
 |.ls l=>by unfold Tr.dv Tr.dp DV.yF;rw[Tr.AB l]
 |.int _=>by unfold Tr.dv Tr.dp DV.yF;rfl
 |.bl _=>by unfold Tr.dv Tr.dp DV.yF;rfl
 |.str _=>by unfold Tr.dv Tr.dp DV.yF;rfl
 |.bq=>by unfold Tr.dv Tr.dp DV.yF;rfl
 |.kt _=>by unfold Tr.dv Tr.dp DV.yF;rfl
 |.kl _=>by unfold Tr.dv Tr.dp DV.yF;rfl
 |.hd _=>by unfold Tr.dv Tr.dp DV.yF;rfl
theorem Tr.AB:∀l:List Tr,DV.Cf (Tr.LP l)=Tr.EA l
 |[]=>by unfold Tr.LP Tr.EA DV.Cf;rfl
 |t::l=>by unfold Tr.LP Tr.EA DV.Cf;rw[Tr.AA t,Tr.AB l]
end
def vw:Nat->Cs->Tr->Tr
 |n+1,S,.hd i=>(match cK S i with|some l=>.ls (l.map (vw n S))|none=>.hd i)
 |n+1,S,.ls l=>.ls (l.map (vw n S))
 |n+1,S,.kl l=>.ls (l.map (vw n S))
 |n+1,S,.tp l=>.tp (l.map (vw n S))
 |n+1,S,.kt l=>.tp (l.map (vw n S))
 |_,_,t=>t
section
variable {G:Gx}{w:Wd}{S:Cs}{H:Hp}
theorem kF (hg:∀t v,RT w t v->(g t).qQ=true->iw G.K H (g t).dv v):∀{l:List Tr} {xs:List V},bG w l xs->Tr.pS (l.map g)=true->kr G.K H (Tr.LP (l.map g)) xs
 |[],xs,h,_=>by rw[h.b_];unfold List.map Tr.LP kr;rfl
 |t::l,xs,h,n=>by
  obtain⟨x,r,rfl,h1,h2⟩:=h.bA;simp only[zat] at n ⊢
  unfold Tr.pS at n;unfold Tr.LP kr;have n:=zbC.mp n;exact⟨x,r,rfl,hg t x h1 n.1,kF hg h2 n.2⟩
mutual
theorem kG (hr:HR G w S H):∀(t:Tr) (v:V),RT w t v->t.qQ=true->iw G.K H t.dv v
 |.tp l,v,r,n=>by
  unfold RT at r;unfold Tr.qQ at n;unfold Tr.dv iw
  obtain⟨a,xs,e,h,r⟩:=r;exact⟨a,xs,e,pA.of (hr.sub _ _ h),qR hr l xs r n⟩
 |.ls l,v,r,n=>by
  unfold RT at r;unfold Tr.qQ at n;unfold Tr.dv iw
  obtain⟨a,xs,e,h,r⟩:=r;exact⟨a,xs,e,jy.of (hr.sub _ _ h),qR hr l xs r n⟩
 |.int _,v,r,n=>by unfold Tr.dv iw;exact⟨aK r,rfl⟩
 |.bl _,v,r,n=>by unfold Tr.dv iw;exact⟨kE r,rfl⟩
 |.str _,v,r,n=>by unfold Tr.dv iw;exact⟨b9 r,rfl⟩
 |.bq,v,r,n=>by unfold Tr.dv iw;exact⟨jk r,rfl⟩
 |.kt _,v,r,n=>by unfold Tr.qQ at n;cases n
 |.kl _,v,r,n=>by unfold Tr.qQ at n;cases n
 |.hd _,v,r,n=>by unfold Tr.qQ at n;cases n
theorem qR (hr:HR G w S H):∀(l:List Tr) (xs:List V),bG w l xs->Tr.pS l=true->kr G.K H (Tr.LP l) xs
 |[],xs,r,n=>by unfold Tr.LP kr;exact r.b_
 |t::l,xs,r,n=>by
  obtain⟨x,r',rfl,h1,h2⟩:=r.bA;unfold Tr.pS at n;unfold Tr.LP kr;have n:=zbC.mp n;exact⟨x,r',rfl,kG hr t x h1 n.1,qR hr l r' h2 n.2⟩
end
theorem lD (hr:HR G w S H):∀(n:Nat) (t:Tr) (v:V),RT w t v->(vw n S t).qQ=true->iw G.K H (vw n S t).dv v
 |0,t,v,r,n=>by unfold vw at n ⊢;exact kG hr t v r n
 |m+1,t,v,r,n=>by
  cases t with
  |hd i =>
   unfold vw at n ⊢
   split at n
   ·rename_i l e
    unfold Tr.qQ at n;obtain⟨xs,h1,h2⟩:=hr.cell i _ (cG e)
    rw[r.cQ.2];unfold Tr.dv iw;exact⟨_,xs,rfl,jy.of h1,kF (lD hr m) h2 n⟩
   ·unfold Tr.qQ at n;cases n
  |ls l =>
   unfold vw at n ⊢
   unfold Tr.qQ at n;unfold RT at r;obtain⟨a,xs,e,h,r⟩:=r;unfold Tr.dv iw;exact⟨a,xs,e,jy.of (hr.sub _ _ h),kF (lD hr m) r n⟩
  |kl l =>
   unfold vw at n ⊢
   unfold Tr.qQ at n;unfold RT at r;obtain⟨a,xs,e,h,r⟩:=r;unfold Tr.dv iw;exact⟨a,xs,e,hr.sqL h,kF (lD hr m) r n⟩
  |tp l =>
   unfold vw at n ⊢
   unfold Tr.qQ at n;unfold RT at r;obtain⟨a,xs,e,h,r⟩:=r;unfold Tr.dv iw;exact⟨a,xs,e,pA.of (hr.sub _ _ h),kF (lD hr m) r n⟩
  |kt l =>
   unfold vw at n ⊢
   unfold Tr.qQ at n;unfold RT at r;obtain⟨a,xs,e,h,r⟩:=r;unfold Tr.dv iw;exact⟨a,xs,e,hr.sqT h,kF (lD hr m) r n⟩
  |bq=>unfold vw at n ⊢;exact kG hr _ v r n
  |int=>unfold vw at n ⊢;exact kG hr _ v r n
  |bl=>unfold vw at n ⊢;exact kG hr _ v r n
  |str=>unfold vw at n ⊢;exact kG hr _ v r n
end
open Classical in
def cC (neg:Bool):Tr->Tr->Cs->R Tr:=λt1 t2 S=>match NO t1 t2 with
 |some b=>.ok (.bl (if neg then !b else b)) S
 |none=>if vw 6 S t1=vw 6 S t2/\(vw 6 S t1).qQ=true/\(vw 6 S t1).dp<=50/\(vw 6 S t1).dp≠0 then .ok (.bl (!neg)) S else .ay
theorem Uc (h:NO t1 t2=some b)(r1:RT w t1 x)(r2:RT w t2 y):aaT x y=true/\decide (x=y)=b:=by
 unfold NO at h;split at h<;>(first | (cases h;done)|skip)<;>(unfold RT at r1 r2;subst r1;subst r2;cases h;first|exact⟨rfl,ES⟩|exact⟨rfl,by simp⟩|exact⟨rfl,by rw[zbu];simp⟩)
theorem NP:oz G k (compareOp (if neg then .NotEq else .Eq)) (cC neg):=.mk<|λX o ah s σ H x y v u Q I rx ry gD=>by
 obtain⟨w,S,t1,t2,hr,r1,r2,q⟩:=gD;unfold cC at q;split at q
 ·rename_i b e
  obtain⟨h1,h2⟩:=Uc e r1 r2;have q:=q w H _ (.refl w) hr gF
  cases neg with
  |true=>exact ahb ah s σ H x y v u Q I rx ry ⟨h1,by rw[h2];exact q⟩
  |false=>exact aha ah s σ H x y v u Q I rx ry ⟨h1,by rw[h2];exact q⟩
 ·split at q
  ·rename_i h
   obtain⟨e1,e2,e3,e4⟩:=h;have d1:=lD hr 6 t1 x r1 e2;have d2:=lD hr 6 t2 y r2 (by rw[<-e1];exact e2)
   rw[<-e1] at d2;rw[<-o.K] at d1 d2;have q:=q w H _ (.refl w) hr gF
   have hn:∀z,(vw 6 S t1).dv ≠ .fl z:=λz hz=>e4 (by rw[<-Tr.AA,hz];unfold DV.yF;rfl)
   cases neg with
   |true=>exact abL o.hu ah s σ H x y v u Q I rx ry ⟨_,by rw[Tr.AA];exact e3,hn,d1,d2,q⟩
   |false=>exact abK o.hu ah s σ H x y v u Q I rx ry ⟨_,by rw[Tr.AA];exact e3,hn,d1,d2,q⟩
  ·exact q.elim
theorem Ud:oz G k (compareOp .Eq) (cC false):=NP (neg:=false)
theorem NQ:oz G k (compareOp .NotEq) (cC true):=NP (neg:=true)
noncomputable def isN:Tr->Bool|.bq=>true|_=>false
def iY (neg:Bool):Tr->Tr->Cs->R Tr:=λt1 t2 S=>match t2 with
 |.bq=>.ok (.bl (if neg then !isN t1 else isN t1)) S
 |_=>.ay
theorem NR (r:RT w t x):decide (x=V.bq)=isN t:=by
 cases t<;>unfold RT at r<;>(first | (subst r;rfl) | (obtain⟨a,xs,rfl,_⟩:=r;rfl) | (rw[r.2];rfl))
theorem W8:oz G k (compareOp (if neg then .IsNot else .Is)) (iY neg):=.mk<|λX o ah s σ H x y v u Q I rx ry kC=>by
 obtain⟨w,S,t1,t2,hr,r1,r2,q⟩:=kC;unfold iY at q;split at q
 ·have q:=q w H _ (.refl w) hr gF
  cases neg with
  |true=>exact Ss ah s σ H x y v u Q I rx ry ⟨jk r2,by rw[NR r1];exact q⟩
  |false=>exact aaU ah s σ H x y v u Q I rx ry ⟨jk r2,by rw[NR r1];exact q⟩
 ·exact q.elim
theorem Ue:oz G k (compareOp .Is) (iY false):=W8 (neg:=false)
theorem HB:oz G k (compareOp .IsNot) (iY true):=W8 (neg:=true)
noncomputable def iz:Tr->Option dF|.int i=>some (.inl i)|.str x=>some (.inr x)|_=>none
noncomputable def aN {κ:Type}[DecidableEq κ](k:κ):List (κ × Tr)->Option Tr
 |[]=>none
 | (j,t)::r=>if j=k then some t else aN k r
noncomputable def gy {κ:Type}[DecidableEq κ](l:List (κ × Tr))(k:κ)(t:Tr):List (κ × Tr):=
 if (l.any λkv=>decide (kv.1=k))=true then l.map (λkv=>if kv.1=k then (kv.1,t) else kv) else l++[(k,t)]
noncomputable def cy (f:Str)(v:Tr):List (Str×Tr)->List (Str×Tr)
 |[]=>[(f,v)]
 | (g,x)::r=>if g=f then (g,v)::r else (g,x)::cy f v r
def fm (aI jR:List (dF×Tr)):List (dF×Tr):=jR.foldl (λbO kv=>gy bO kv.1 kv.2) aI
section
variable {w:Wd}{κ:Type}[DecidableEq κ]
theorem mX:∀{l:List (κ × Tr)} {m:List (κ × V)} {k:κ},RK w l m->(∀t,aN k l=some t->∃v,mE m k=some v/\RT w t v)/\(aN k l=none->mE m k=none)
 |[],m,k,h=>by rw[h.b_];exact⟨λt e=>(by cases e),λ_=>rfl⟩
 | (j,t)::l,m,k,h=>by
  obtain⟨v,r,rfl,h1,h2⟩:=h.bA;unfold aN;by_cases e:j=k
  ·rw[if_pos e,pD (p:=(j,v)) e]
   exact⟨λu z=>by cases z;exact⟨v,rfl,h1⟩,λz=>by cases z⟩
  ·rw[if_neg e,pF (p:=(j,v)) e]
   exact mX h2
theorem iA:∀{l:List (Str×Tr)} {m:List (Str×V)} {k:Str},RK w l m->(∀t,aN k l=some t->∃v,m.lookup k=some v/\RT w t v)/\(aN k l=none->m.lookup k=none)
 |[],m,k,h=>by rw[h.b_];exact⟨λt e=>(by cases e),λ_=>rfl⟩
 | (j,t)::l,m,k,h=>by
  obtain⟨v,r,rfl,h1,h2⟩:=h.bA;unfold aN;by_cases e:j=k
  ·subst e
   rw[if_pos rfl,List.lookup_cons_self];exact⟨λu z=>by cases z;exact⟨v,rfl,h1⟩,λz=>by cases z⟩
  ·have hb:(k == j)=false:=beq_eq_false_iff_ne.mpr λz=>e z.symm
   rw[if_neg e,zaV,hb];exact iA h2
theorem RK.put (h:RK w l m)(k:κ)(r:RT w t v):RK w (gy l k t) (kg m k v):=by
 have anA:(l.any λkv=>decide (kv.1=k))=m.any λkv=>decide (kv.1=k):=by
  have e1:(l.any λkv=>decide (kv.1=k))=(l.map Prod.fst).any λj=>decide (j=k):=by rw[zdh];rfl
  have e2:(m.any λkv=>decide (kv.1=k))=(m.map Prod.fst).any λj=>decide (j=k):=by rw[zdh];rfl
  rw[e1,e2,h.1]
 have anB:∀{l:List (κ × Tr)} {m:List (κ × V)},RK w l m->RK w (l.map λkv=>if kv.1=k then (kv.1,t) else kv) (m.map λkv=>if kv.1=k then (kv.1,v) else kv):=by
  intro l;induction l with
  |nil=>intro m h;rw[h.b_];exact .nil
  |cons p l ih =>
   intro m h;obtain⟨j,u⟩:=p;obtain⟨x,r',rfl,h1,h2⟩:=h.bA;simp only[zat];by_cases e:j=k
   ·rw[if_pos e,if_pos e];exact .cons r (ih h2)
   ·rw[if_neg e,if_neg e];exact .cons h1 (ih h2)
 unfold gy kg;rw[anA];split
 ·exact anB h
 ·exact⟨by simp[h.1],by simp only[zaG,zat,zcc];exact h.2.snoc r⟩
theorem RK.gB:∀{l:List (Str×Tr)} {m:List (Str×V)},RK w l m->(f:Str)->{t:Tr}->{v:V}->RT w t v->RK w (cy f t l) (L2.gB f v m)
 |[],m,h,f,t,v,r=>by rw[h.b_];exact .cons r .nil
 | (j,u)::l,m,h,f,t,v,r=>by
  obtain⟨x,r',rfl,h1,h2⟩:=h.bA;unfold cy L2.gB;split
  ·exact .cons r h2
  ·exact .cons h1 (RK.gB h2 f r)
theorem RK.B3:∀{jR:List (dF×Tr)} {mv:List (dF×V)} {l:List (dF×Tr)} {m:List (dF×V)},RK w jR mv->RK w l m->RK w (fm l jR) (gq m mv)
 |[],mv,l,m,h,g=>by rw[h.b_];exact g
 | (k,t)::jR,mv,l,m,h,g=>by
  obtain⟨x,r',rfl,h1,h2⟩:=h.bA;show RK w (fm (gy l k t) jR) (gq (kg m k x) r')
  exact RK.B3 h2 (g.put k h1)
theorem f7 (e:iz t=some k)(r:RT w t v):v=kV k:=by
 cases t with
 |int i=>cases e;exact aK r
 |str i=>cases e;exact b9 r
 |_=>cases e
end
noncomputable def iU:Tr->Bool|.bq=>true|.bl _=>true|.int _=>true|.str _=>true|_=>false
noncomputable def eqF:Tr->Tr->Bool
 |.bq,.bq=>true
 |.bl a,.bl b=>a == b
 |.bl a,.int b=>(if a then 1 else 0) == b
 |.int a,.bl b=>a == (if b then 1 else 0)
 |.int a,.int b=>a == b
 |.str a,.str b=>a == b
 |_,_=>false
def LQ (t:Tr)(l:List Tr):Bool:=l.any λu=>eqF u t
def w_ (neg:Bool):Tr->Tr->Cs->R Tr:=λt1 t2 S=>match t2 with
 |.str z=>(match t1 with|.str y=>.ok (.bl (if neg then !(!(Builtin.Str.occurrences z y 0 z.length 1).isEmpty) else !(Builtin.Str.occurrences z y 0 z.length 1).isEmpty)) S|_=>.ay)
 |t2=>match Cr S t2 with
  |some l=>if iU t1=true/\l.all iU=true then .ok (.bl (if neg then !LQ t1 l else LQ t1 l)) S else .ay
  |none=>.ay
section
variable {G:Gx}{k:Nat}{w:Wd}
theorem uB (h:iU t=true)(r:RT w t v):jH v=true:=by
 cases t<;>first | (cases h;done) | (unfold RT at r;subst r;rfl)
theorem qS:∀{l:List Tr} {xs:List V},l.all iU=true->bG w l xs->xs.all jH=true
 |[],xs,_,r=>by rw[r.b_];rfl
 |t::l,xs,h,r=>by
  obtain⟨x,r',rfl,h1,h2⟩:=r.bA;have h:=zbC.mp (show (iU t && l.all iU)=true from h)
  show (jH x && r'.all jH)=true
  rw[uB h.1 h1,qS h.2 h2];rfl
theorem ab5 (h1:iU t=true)(h2:iU u=true)(r1:RT w t x)(r2:RT w u y):Ho x y=eqF t u:=by
 cases t<;>(first | (cases h1;done)|skip)<;>(unfold RT at r1;subst r1)<;>cases u<;>(first | (cases h2;done)|skip)<;>(unfold RT at r2;subst r2;rfl)
theorem NS (h1:iU t=true)(r:RT w t x):∀{l:List Tr} {xs:List V},l.all iU=true->bG w l xs->inV x xs=LQ t l
 |[],xs,_,q=>by rw[q.b_];rfl
 |u::l,xs,h,q=>by
  obtain⟨y,r',rfl,g1,g2⟩:=q.bA;have h:=zbC.mp (show (iU u && l.all iU)=true from h)
  show (Ho y x || inV x r')=(eqF u t || LQ t l)
  rw[ab5 h.1 h1 g1 r,NS h1 r h.2 g2]
theorem W9:oz G k (compareOp (if neg then .NotIn else .In)) (w_ neg):=.mk<|λX o ah s σ H x y v u Q I rx ry bU=>by
 obtain⟨w,S,t1,t2,hr,r1,r2,q⟩:=bU;unfold w_ at q;split at q
 ·split at q
  ·have q:=q w H _ (.refl w) hr gF
   cases neg with
   |true=>exact Aj ah s σ H x y v u Q I rx ry ⟨_,_,b9 r1,b9 r2,q⟩
   |false=>exact JF ah s σ H x y v u Q I rx ry ⟨_,_,b9 r1,b9 r2,q⟩
  ·exact q.elim
 ·split at q
  ·rename_i l e
   split at q
   ·rename_i h
    obtain⟨a,xs,e1,sq,R⟩:=Ay hr r2 e;have q:=q w H _ (.refl w) hr gF
    rw[<-o.K] at sq;rw[<-NS h.1 r1 h.2 R] at q;cases neg with
    |true=>exact Ai ah s σ H x y v u Q I rx ry ⟨a,xs,e1,sq,uB h.1 r1,qS h.2 R,q⟩
    |false=>exact JN ah s σ H x y v u Q I rx ry ⟨a,xs,e1,sq,uB h.1 r1,qS h.2 R,q⟩
   ·exact q.elim
  ·exact q.elim
theorem AD:oz G k (compareOp .In) (w_ false):=W9 (neg:=false)
theorem Cu:oz G k (compareOp .NotIn) (w_ true):=W9 (neg:=true)
def Cv (neg:Bool):Tr->Tr->Cs->R Tr:=λt1 t2 S=>match LN S t2,iz t1 with
 |some m,some j=>.ok (.bl (if neg then !(aN j m).isSome else (aN j m).isSome)) S
 |_,_=>.ay
variable {X:Cx}{a b c:Expr}{fa fb fc:Em}{pos Nh:Pos}
theorem Cw (r:RK w m aI)(j:dF):(mE aI j).isSome=(aN j m).isSome:=by
 obtain⟨h1,h2⟩:=mX (k:=j) r
 cases e:aN j m with
 |none=>rw[h2 e];rfl
 |some t=>obtain⟨v,ev,_⟩:=h1 t e;rw[ev];rfl
theorem NT (h:dU G (ai (Cv neg) fa fb) σ H Q):(if neg then Ab (dU G fa) (dU G fb) else aa3 (dU G fa) (dU G fb)) σ H Q:=by
 have h:=mV h;have go:∀{σ H Q},tOp (r2 G (Cv neg)) (dU G fa) (dU G fb) σ H Q->dU G fa σ H λy H1=>dU G fb σ H1 λx H2=>∃a o,x=V.ref a/\mP H2 a y o/\Q (.bl (if neg then !o.isSome else o.isSome)) H2:=λ{σ H Q} h=>by
  obtain⟨w,S,τ,hr,sl,q⟩:=h;refine⟨w,S,τ,hr,sl,q.mono λy H1 ⟨w1,S1,fq,bH,Cc,q1⟩=>⟨w1,S1,fq,bH,Cc,q1.mono λx H2 eZ=>?_⟩⟩
  obtain⟨w2,S2,t1,t2,dI,r1,r2,q2⟩:=eZ;unfold Cv at q2;split at q2
  ·rename_i m j em ej
   obtain⟨n,aI,_,_,ev,hH,R⟩:=uA dI r2 em;refine⟨w2.ρ n,mE aI j,ev,?_,?_⟩
   ·rw[f7 ej r1]
    exact mP.k hH
   ·rw[Cw R]
    exact q2 w2 H2 _ (.refl _) dI gF
  ·exact q2.elim
 cases neg with
 |true=>exact go h
 |false=>exact go h
theorem Ug (ha:TV G k X a fa)(hb:TV G k X b fb)(hm:behindInMarks .NotIn b=false:=by with_unfolding_all rfl):TV G k X (.Compare a [.NotIn] [b] pos) (ai (Cv true) fa fb):=.mk<|λo=>(aav (JM o.W4 (ha o) (hb o)) hm).wk λ_ _ _ h=>NT (neg:=true) h
theorem ab6 (ha:TV G k X a fa)(hb:TV G k X b fb)(hm:behindInMarks .In b=false:=by with_unfolding_all rfl):Cm G k X (.Compare a [.In] [b] pos) (mB (ai (Cv false) fa fb)):=.mk<|λo=>(L6 (Mw o.W4 (ha o) (hb o)) hm).wk λ_ _ _ h=>NT (neg:=false) (pP h)
def bu:Tr->Tr->Cs->R Tr:=λt1 t2 S=>match t1,t2 with
 |.str z,.int i=>if z.length<=sizeLine then (match jG z.cps.toList i with|some c=>.ok (.str ⟨#[c]⟩) S|none=>.ay) else .ay
 |t1,.int i=>(match Cr S t1 with
  |some l=>(match jG l i with|some t=>.ok t S|none=>.ay)
  |none=>.ay)
 |_,_=>.ay
theorem aiw (ha:TV G k X a fa)(hb:TV G k X b fb)(hs:Hl b:=by intro _ _;rfl):TV G k X (.Subscript a b pos) (ai bu fa fb):=.mk<|λo=>(ahB abe (ha o) (hb o) hs).wk λσ H Q h=>by
 obtain⟨w,S,τ,hr,sl,q⟩:=mV h;refine⟨w,S,τ,hr,sl,q.mono λx H1 ⟨w1,S1,fq,bH,Cc,q1⟩=>⟨w1,S1,fq,bH,Cc,q1.mono λy H2 jg=>?_⟩⟩
 obtain⟨w2,S2,t1,t2,dI,r1,r2,q2⟩:=jg;unfold bu at q2;split at q2
 ·split at q2
  ·split at q2
   ·rename_i c e
    exact .inr (.inr ⟨_,_,c,b9 r1,aK r2,(by assumption),e,q2 w2 H2 _ (.refl _) dI lq⟩)
   ·exact q2.elim
  ·exact q2.elim
 ·split at q2
  ·rename_i l e
   split at q2
   ·rename_i t et
    obtain⟨p,xs,e1,sq,R⟩:=Ay dI r1 e;obtain⟨v,ev,rv⟩:=R.jG et;have q:=q2 w2 H2 v (.refl _) dI rv
    rw[<-o.K] at sq;rcases sq with sq|sq
    ·exact .inl ⟨p,xs,_,v,e1,aK r2,sq,ev,q⟩
    ·exact .inr (.inl ⟨p,xs,_,v,e1,aK r2,sq,ev,q⟩)
   ·exact q2.elim
  ·exact q2.elim
 ·exact q2.elim
def qT:Tr->Tr->Cs->R Tr:=λt1 t2 S=>match LN S t1,iz t2 with
 |some m,some j=>(match aN j m with|some t=>.ok t S|none=>.ay)
 |_,_=>.ay
theorem ab7 (ha:TV G k X a fa)(hb:TV G k X b fb)(hs:SM b:=by intro _ _;rfl):TV G k X (.Subscript a b pos) (ai qT fa fb):=.mk<|λo=>(Hg o.W4 (ha o) (hb o) hs).wk λσ H Q h=>by
 obtain⟨w,S,τ,hr,sl,q⟩:=mV h;refine⟨w,S,τ,hr,sl,q.mono λx H1 ⟨w1,S1,fq,bH,Cc,q1⟩=>⟨w1,S1,fq,bH,Cc,q1.mono λy H2 gD=>?_⟩⟩
 obtain⟨w2,S2,t1,t2,dI,r1,r2,q2⟩:=gD;unfold qT at q2;split at q2
 ·rename_i m j em ej
  split at q2
  ·rename_i t et
   obtain⟨n,aI,_,_,ev,hH,R⟩:=uA dI r1 em;obtain⟨v,e2,rv⟩:=(mX (k:=j) R).1 t et
   have g:=mP.k (k:=j) hH
   rw[e2] at g;exact⟨w2.ρ n,v,ev,by rw[f7 ej r2];exact g,q2 w2 H2 v (.refl _) dI rv⟩
  ·exact q2.elim
 ·exact q2.elim
def HC (f:Em):En->Cs->R (Option Int):=λτ S=>(f τ S).az λt S1=>match t with|.int i=>.ok (some i) S1|_=>.ay
def Uh (G:Gx)(f:En->Cs->R (Option Int)):TO:=λσ H Q=>∃w S τ,HR G w S H/\Sl w τ σ /\ aZ (λ_ a b=>a=b) G w (f τ S) Q
structure TVO (G:Gx) (k:Nat) (X:Cx) (e:Option Expr) (f:En->Cs->R (Option Int)):Prop where
 kY:jU G k X->PO X e (Uh G f)
instance {G:Gx}{k:Nat}{X:Cx}{e:Option Expr}{f:En->Cs->R (Option Int)}:CoeFun (TVO G k X e f) (λ_=>jU G k X->PO X e (Uh G f)):=⟨TVO.kY⟩
theorem Ui (ha:TV G k X a fa):TVO G k X (some a) (HC fa):=.mk<|λo ah s σ H Q I ⟨w,S,τ,hr,sl,q⟩=>Ae (ha o) ah s σ H Q I ⟨w,S,τ,hr,sl,(aZ.az q).mono λx H1 pQ=>by
 obtain⟨w1,S1,t1,cX,bH,r1,_,q1⟩:=pQ;split at q1
 ·exact⟨_,aK r1,q1 w1 H1 _ (.refl _) bH rfl⟩
 ·exact q1.elim⟩
def FD (l:List Tr)(lo hi:Option Int):List Tr:=(l.drop (HT.gV l.length 0 lo)).take (HT.gV l.length l.length hi - HT.gV l.length 0 lo)
theorem bG.cut (h:bG w l xs)(lo hi:Option Int):bG w (FD l lo hi) (B4 xs lo hi):=by
 unfold FD B4;rw[h.len];exact (h.drop _).take _
def gSl (t:Tr)(lo hi:Option Int)(S:Cs):R Tr:=match t with
 |.str z=>if z.length<=sizeLine then .ok (.str (Txt.slice z lo hi)) S else .ay
 |t=>match w9 S t with
  |some l=>.ok (.ls (FD l lo hi)) S
  |none=>match R3 t with
   |some l=>if ¬ (HT.gV l.length 0 lo=0/\HT.gV l.length l.length hi=l.length) then .ok (.tp (FD l lo hi)) S else .ay
   |none=>.ay
def mSl (g:Tr->Option Int->Option Int->Cs->R Tr)(fa:Em)(fl fh:En->Cs->R (Option Int)):Em:=λτ S=>(fa τ S).az λt S1=>(fl τ S1).az λlo S2=>(fh τ S2).az λhi S3=>g t lo hi S3
variable {lo hi:Option Expr}{fl fh:En->Cs->R (Option Int)}
theorem NU (h:dU G (mSl g fa fl fh) σ H Q):tSl (λx l u H3 Q=>∃w S t,HR G w S H3/\RT w t x/\aZ RT G w (g t l u S) Q) (dU G fa) (Uh G fl) (Uh G fh) σ H Q:=by
 obtain⟨w,S,τ,hr,sl,q⟩:=h;refine⟨w,S,τ,hr,sl,(aZ.az q).mono λx H1 ly=>?_⟩
 obtain⟨w1,S1,t1,cX,bH,r1,_,q1⟩:=ly;refine⟨w1,S1,τ,bH,sl.mono cX,(aZ.az q1).mono λl H2 uw=>?_⟩
 obtain⟨w2,S2,t2,fj,dI,r2,_,q2⟩:=uw;refine⟨w2,S2,τ,dI,(sl.mono cX).mono fj,(aZ.az q2).mono λu H3 lA=>?_⟩
 obtain⟨w3,S3,t3,jb,nH,r3,_,q3⟩:=lA;subst r2 r3;exact⟨w3,S3,t1,nH,RT.mono (fj.trans jb) _ _ r1,q3⟩
theorem aiy (ha:TV G k X a fa)(hl:TVO G k X lo fl)(hh:TVO G k X hi fh):TV G k X (.Subscript a (.Slice lo hi none p2) pos) (mSl gSl fa fl fh):=.mk<|λo =>
 (MG (r:=λx l u H Q=>∃w S t,HR G w S H/\RT w t x/\aZ RT G w (gSl t l u S) Q) (λah s σ H x v vl vu lo hi sl Q I rx hs pl pu lB=>by
  obtain⟨w,S,t,hr,r,q⟩:=lB;unfold gSl at q;split at q
  ·split at q
   ·exact abp ah s σ H x v vl vu lo hi sl Q I rx hs pl pu ⟨_,b9 r,by assumption,q w H _ (.refl w) hr lq⟩
   ·exact q.elim
  ·split at q
   ·rename_i l e
    obtain⟨a,xs,e1,sq,R⟩:=ji hr r e;rw[<-o.K] at sq;exact Te ah s σ H x v vl vu lo hi sl Q I rx hs pl pu ⟨a,xs,e1,sq,hr.jh (R.cut lo hi) rfl q⟩
   ·split at q
    ·rename_i l e
     split at q
     ·rename_i hn
      obtain⟨a,xs,e1,sq,R⟩:=jj hr r e;rw[<-o.K] at sq;exact abb ah s σ H x v vl vu lo hi sl Q I rx hs pl pu ⟨a,xs,e1,sq,by rw[R.len];exact hn,hr.T_ (R.cut lo hi) rfl q⟩
     ·exact q.elim
    ·exact q.elim) (ha o) (hl o) (hh o)).wk λ_ _ _ h=>NU h
end
section
variable {G:Gx}{k:Nat}{X:Cx}{a b c o e:Expr}{es:List Expr}{fa fb fc fo f:Em}{fr:En->Cs->R (List Tr)}{pos p eX gA:Pos}{x:Str}{id T:String}
noncomputable def rN (G:Gx)(g:List Tr->Cs->R Tr):List V->Hp->VK->Prop:=λxs H Q=>∃w S ts,HR G w S H/\bG w ts xs/\aZ RT G w (g ts S) Q
def bN (g:List Tr->Cs->R Tr)(fr:En->Cs->R (List Tr)):Em:=λτ S=>(fr τ S).az λts S1=>g ts S1
structure mh (G:Gx) (k:Nat) (f:Value) (g:List Tr->Cs->R Tr):Prop where
 kY:∀X:Cx,jU G k X->ig X f (rN G g)
instance {G:Gx}{k:Nat}{f:Value}{g:List Tr->Cs->R Tr}:CoeFun (mh G k f g) (λ_=>∀X:Cx,jU G k X->ig X f (rN G g)):=⟨mh.kY⟩
theorem HD (h:dU G (bN g fr) σ H Q):tCB (rN G g) (Ft G fr) σ H Q:=by
 obtain⟨w,S,τ,hr,sl,q⟩:=h;exact⟨w,S,τ,hr,sl,(aZ.az q).mono λxs H1 bU=>by obtain⟨w1,S1,ts,cX,bH,r1,_,q1⟩:=bU;exact⟨w1,S1,ts,bH,r1,q1⟩⟩
theorem cF (hc:mh G k (.builtin id) g)(hm:X.mg x=none)(hv:bootBuiltins x=some (.builtin id))(ha:xH G k X (e::es) fr)(hg:Gl X x:=by rfl)(hn:x ≠ "__name__" := by decide)(tU:(x == ("__debug__":Str))=false:=by decide)
  (he:dH e=false:=by rfl) (hpl:dD es=true:=by rfl):TV G k X (.Call (.Name x p) (e::es) [] pos) (bN g fr):=.mk<|λo =>
 (tW (hc X o) hg hm hv (ha o) hn tU (cU he) (f6 hpl)).wk λ_ _ _ h=>HD h
theorem c_ (hc:mh G k (.type T) g)(hm:X.mg x=none)(hv:bootBuiltins x=some (.type T))(ha:xH G k X (e::es) fr)(hg:Gl X x:=by rfl)(hn:x ≠ "__name__" := by decide)(tU:(x == ("__debug__":Str))=false:=by decide)
  (he:dH e=false:=by rfl) (hpl:dD es=true:=by rfl):TV G k X (.Call (.Name x p) (e::es) [] pos) (bN g fr):=.mk<|λo =>
 (yo (hc X o) hg hm hv (ha o) hn tU (cU he) (f6 hpl)).wk λ_ _ _ h=>HD h
theorem fu (r:bG w [t] xs):∃x,xs=[x]/\RT w t x:=by
 obtain⟨x,r',rfl,h1,h2⟩:=r.bA;exact⟨x,by rw[h2.b_],h1⟩
theorem sV (r:bG w [t,u] xs):∃x y,xs=[x,y]/\RT w t x/\RT w u y:=by
 obtain⟨x,r',rfl,h1,h2⟩:=r.bA;obtain⟨y,rfl,h3⟩:=fu h2;exact⟨x,y,rfl,h1,h3⟩
def iB:List Tr->Cs->R Tr:=λts S=>match ts with
 |[.str z]=>if z.length<=sizeLine then .ok (.int z.length) S else .ay
 |[t]=>(match Cr S t with|some l=>.ok (.int l.length) S|none=>match LN S t with|some m=>.ok (.int m.length) S|none=>.ay)
 |_=>.ay
theorem jI:mh G k (.builtin "len") iB:=.mk<|λX o ah s σ H xs us Q I rv dh=>by
 obtain⟨w,S,ts,hr,r,q⟩:=dh;unfold iB at q;split at q
 ·split at q
  ·obtain⟨x,rfl,r1⟩:=fu r
   exact Al ah s σ H _ us Q I rv ⟨_,by rw[b9 r1],by assumption,q w H _ (.refl w) hr dZ⟩
  ·exact q.elim
 ·obtain⟨x,rfl,r1⟩:=fu r
  split at q
  ·rename_i l e
   obtain⟨a,xs,e1,sq,R⟩:=Ay hr r1 e;rw[<-o.K] at sq;have q:=q w H (.int xs.length) (.refl w) hr (by rw[R.len];exact dZ)
   exact Ak ah s σ H _ us Q I rv ⟨a,xs,by rw[e1],sq,q⟩
  ·split at q
   ·rename_i m e
    obtain⟨n,aI,_,_,ev,hH,R⟩:=uA hr r1 e;have q:=q w H (.int aI.length) (.refl w) hr (by rw[R.len];exact dZ)
    exact JS ah s σ H _ us Q I rv ⟨w.ρ n,aI,by rw[ev],hH,q⟩
   ·exact q.elim
 ·exact q.elim
def pT:List Tr->Cs->R Tr:=λts S=>match ts with
 |[t]=>(match Cr S t with|some l=>.ok (.ls l) S|none=>.ay)
 |_=>.ay
def qU:List Tr->Cs->R Tr:=λts S=>match ts with
 |[t]=>(match w9 S t with|some l=>.ok (.tp l) S|none=>match R3 t with|some _=>.ok t S|none=>.ay)
 |_=>.ay
theorem qV:mh G k (.type "list") pT:=.mk<|λX o ah s σ H xs us Q I rv eZ=>by
 obtain⟨w,S,ts,hr,r,q⟩:=eZ;unfold pT at q;split at q
 ·obtain⟨x,rfl,r1⟩:=fu r
  split at q
  ·rename_i l e
   obtain⟨a,xs,e1,sq,R⟩:=Ay hr r1 e;rw[<-o.K] at sq;exact Am ah s σ H _ us Q I rv ⟨a,xs,by rw[e1],sq,hr.jh R rfl q⟩
  ·exact q.elim
 ·exact q.elim
theorem HE:mh G k (.type "tuple") qU:=.mk<|λX o ah s σ H xs us Q I rv jg=>by
 obtain⟨w,S,ts,hr,r,q⟩:=jg;unfold qU at q;split at q
 ·obtain⟨x,rfl,r1⟩:=fu r
  split at q
  ·rename_i l e
   obtain⟨a,xs,e1,sq,R⟩:=ji hr r1 e;rw[<-o.K] at sq;exact ou ah s σ H _ us Q I rv ⟨a,xs,by rw[e1],.inl ⟨sq,hr.T_ R rfl q⟩⟩
  ·split at q
   ·rename_i l e
    obtain⟨a,xs,e1,sq,R⟩:=jj hr r1 e;rw[<-o.K] at sq;have q:=q w H x (.refl w) hr r1
    rw[e1] at q;exact ou ah s σ H _ us Q I rv ⟨a,xs,by rw[e1],.inr ⟨sq,q⟩⟩
   ·exact q.elim
 ·exact q.elim
noncomputable def xM:List Tr->Cs->R Tr:=λts S=>match ts with
 |[.int i]=>.ok (.int i) S
 |[.bl b]=>.ok (.int (if b then 1 else 0)) S
 |_=>.ay
theorem HF:mh G k (.type "int") xM:=.mk<|λX o ah s σ H xs us Q I rv ki=>by
 obtain⟨w,S,ts,hr,r,q⟩:=ki;unfold xM at q;split at q
 ·obtain⟨x,rfl,r1⟩:=fu r
  exact yg ah s σ H _ us Q I rv (.inl ⟨_,by rw[aK r1],q w H _ (.refl w) hr dZ⟩)
 ·obtain⟨x,rfl,r1⟩:=fu r
  exact yg ah s σ H _ us Q I rv (.inr ⟨_,by rw[kE r1],q w H _ (.refl w) hr dZ⟩)
 ·exact q.elim
noncomputable def mY:List Tr->Option (List Int)|[]=>some []|.int i::l=>(mY l).map (i::·)|_=>none
noncomputable def rQ:List Tr->Option (List Bool)|[]=>some []|.bl i::l=>(rQ l).map (i::·)|_=>none
theorem uC:∀{l:List Tr} {xs:List V} {ns:List Int},mY l=some ns->bG w l xs->xs=ns.map V.int
 |[],xs,ns,h,r=>by cases h;exact r.b_
 |t::l,xs,ns,h,r=>by
  obtain⟨x,r',rfl,h1,h2⟩:=r.bA;cases t with
  |int i =>
   cases e:mY l with
   |none=>unfold mY at h;rw[e] at h;cases h
   |some ms=>unfold mY at h;rw[e] at h;cases h;rw[uC e h2,aK h1];rfl
  |_=>cases h
theorem Cy:∀{l:List Tr} {xs:List V} {ns:List Bool},rQ l=some ns->bG w l xs->xs=ns.map V.bl
 |[],xs,ns,h,r=>by cases h;exact r.b_
 |t::l,xs,ns,h,r=>by
  obtain⟨x,r',rfl,h1,h2⟩:=r.bA;cases t with
  |bl i =>
   cases e:rQ l with
   |none=>unfold rQ at h;rw[e] at h;cases h
   |some ms=>unfold rQ at h;rw[e] at h;cases h;rw[Cy e h2,kE h1];rfl
  |_=>cases h
def Cz:List Tr->Cs->R Tr:=λts S=>match ts with
 |[t]=>(match w9 S t with|some l=>(match mY l with|some ns=>.ok (.int ns.sum) S|none=>.ay)|none=>.ay)
 |_=>.ay
theorem W_ (hk:0<k:=by first|decide|omega):mh G k (.builtin "sum") Cz:=.mk<|λX o ah s σ H xs us Q I rv ly=>by
 obtain⟨w,S,ts,hr,r,q⟩:=ly;unfold Cz at q;split at q
 ·obtain⟨x,rfl,r1⟩:=fu r
  split at q
  ·rename_i l e
   split at q
   ·rename_i ns en
    obtain⟨a,xs,e1,sq,R⟩:=ji hr r1 e;rw[<-o.K,uC en R] at sq;exact Ni (o.d9 hk) ah s σ H _ us Q I rv ⟨a,ns,by rw[e1],sq,q w H _ (.refl w) hr dZ⟩
   ·exact q.elim
  ·exact q.elim
 ·exact q.elim
def Uj:List Tr->Cs->R Tr:=λts S=>match ts with
 |[t]=>(match Ez S t with|some l=>(match rQ l with|some ns=>.ok (.bl (ns.any _root_.id)) S|none=>.ay)|none=>.ay)
 |_=>.ay
theorem aiz (hk:0<k:=by first|decide|omega):mh G k (.builtin "any") Uj:=.mk<|λX o ah s σ H xs us Q I rv lA=>by
 obtain⟨w,S,ts,hr,r,q⟩:=lA;unfold Uj at q;split at q
 ·obtain⟨x,rfl,r1⟩:=fu r
  split at q
  ·rename_i l e
   split at q
   ·rename_i ns en
    obtain⟨a,xs,e1,sq,R⟩:=oS hr r1 e;rw[Cy en R] at sq;exact Nk (o.d9 hk) ah s σ H _ us Q I rv ⟨a,ns,by rw[e1],sq,q w H _ (.refl w) hr gF⟩
   ·exact q.elim
  ·exact q.elim
 ·exact q.elim
noncomputable def LR (S:Cs):Tr->Option String
 |.bq=>some "NoneType"
 |.bl _=>some "bool"
 |.int _=>some "int"
 |.str _=>some "str"
 |.tp _=>some "tuple"
 |.ls _=>some "list"
 |.hd n=>(match S[n]? with|some (.bD _)=>some "list" |some (.iy _)=>some "dict" |_=>none)
 |_=>none
noncomputable def nY (a u:String):Option Bool:=if a="bool" /\ u="int" then some true else if a∈["NoneType","bool","int","str","tuple","list","dict"]/\u∈["bool","int","str","tuple","list","dict"] then some (decide (a=u)) else none
theorem Uk {K:W.Frag}{a u:String}{b:Bool}(h:nY a u=some b):W.kitOne K (.type a) (.type u)=some b:=by
 unfold nY at h;split at h
 ·rename_i e
  obtain⟨rfl,rfl⟩:=e;cases h;rfl
 ·split at h
  ·rename_i e
   obtain⟨e1,e2⟩:=e;simp only[zam,zav,or_false] at e1 e2;rename_i hn;rcases e1 with rfl|rfl|rfl|rfl|rfl|rfl|rfl<;>rcases e2 with rfl|rfl|rfl|rfl|rfl|rfl<;>(first | (cases h;rfl) | (exact absurd ⟨rfl,rfl⟩ hn))
  ·cases h
theorem ab8 (hr:HR G w S H)(r:RT w t v)(e:LR S t=some ty):pC G.K H v (.type ty):=by
 cases t with
 |bq=>cases e;rw[jk r];exact .bq
 |bl=>cases e;rw[kE r];exact .bl _
 |int=>cases e;rw[aK r];exact .int _
 |str=>cases e;rw[b9 r];exact .str _
 |tp l=>cases e;unfold RT at r;obtain⟨a,xs,rfl,h,_⟩:=r;exact .gn (hr.sub _ _ h)
 |ls l=>cases e;unfold RT at r;obtain⟨a,xs,rfl,h,_⟩:=r;exact .bD (hr.sub _ _ h)
 |hd n =>
  unfold LR at e;rw[r.cQ.2];dsimp only at e
  split at e
  ·rename_i l el
   cases e;obtain⟨xs,h,_⟩:=hr.cell n _ el;exact .bD h
  ·rename_i l el
   cases e;obtain⟨xs,h,_⟩:=hr.cell n _ el;exact .dK h
  ·cases e
 |kt _=>cases e
 |kl _=>cases e
def jE (u:String)(fa:Em):Em:=λτ S=>(fa τ S).az λt S1=>match LR S1 t with|some ty=>(match nY ty u with|some b=>.ok (.bl b) S1|none=>.ay)|none=>.ay
theorem jV {p2:Pos}(hm:X.mg "isinstance"=none)(hy:X.mg y=none)(hb:bootBuiltins y=some (.type u))(ha:TV G k X a fa)(hg:Gl X "isinstance" := by rfl)(hgy:Gl X y:=by rfl)(hn:y ≠ "__name__" := by decide)(hd:(y == ("__debug__":Str))=false:=by decide)
  (hs:dH a=false:=by rfl):TV G k X (.Call (.Name "isinstance" p) [a,.Name y p2] [] pos) (jE u fa):=.mk<|λo =>
 (tW MY hg hm PyProof.Rows.boot_isinstance (kX (ha o) (kX (Sd (v:=.ty u) hgy hy hb rfl hn hd) tT (cU rfl)) (cU hs)) (he:=cU hs) (hpl:=f6 rfl)).wk λσ H Q h=>by
  obtain⟨w,S,τ,hr,sl,q⟩:=h;refine⟨w,S,τ,hr,sl,(aZ.az q).mono λx H1 lB=>?_⟩
  obtain⟨w1,S1,t1,cX,bH,r1,_,q1⟩:=lB;split at q1
  ·rename_i ty et
   split at q1
   ·rename_i b eb
    have ty:=ab8 bH r1 et;rw[<-o.K] at ty;exact⟨x,.ty u,u,_,b,rfl,.inl rfl,ty,Uk eb,q1 w1 H1 _ (.refl _) bH gF⟩
   ·exact q1.elim
  ·exact q1.elim
noncomputable def rM (G:Gx)(g:Tr->List Tr->Cs->R Tr):V->List V->Hp->VK->Prop:=λx xs H Q=>∃w S t ts,HR G w S H/\RT w t x/\bG w ts xs/\aZ RT G w (g t ts S) Q
def xN (ck:Cs->Tr->Bool)(g:Tr->List Tr->Cs->R Tr)(fo:Em)(fr:En->Cs->R (List Tr)):Em:=λτ S=>(fo τ S).az λt S1=>if ck S1 t=true then (fr τ S1).az λts S2=>g t ts S2 else .ay
structure FE (G:Gx) (k:Nat) (id:String) (g:Tr->List Tr->Cs->R Tr):Prop where
 kY:∀X:Cx,jU G k X->MtR X id (rM G g)
instance {G:Gx}{k:Nat}{id:String}{g:Tr->List Tr->Cs->R Tr}:CoeFun (FE G k id g) (λ_=>∀X:Cx,jU G k X->MtR X id (rM G g)):=⟨FE.kY⟩
def LS (S:Cs)(t:Tr):Bool:=(w9 S t).isSome
def ckD (S:Cs)(t:Tr):Bool:=(LN S t).isSome
def ab9 (ck:Cs->Tr->Bool)(T:String):Prop:=∀(G:Gx) (w:Wd) (S:Cs) (H:Hp) (t:Tr) (v:V),HR G w S H->RT w t v->ck S t=true->tyV G.K T v H
theorem oU:ab9 LS "list" := λG w S H t v hr r e=>by
 unfold LS at e;obtain⟨l,el⟩:=zcq.mp e;obtain⟨a,xs,rfl,sq,_⟩:=ji hr r el;exact .inl ⟨rfl,xs,sq⟩
theorem acd (hs:dH e=false)(B6:dD es=true)(cM:decide (es.length<29)=true):((backTo gA (starEach (e::es) env)).all (λx=>!x.1) && (backToKw gA (keywordEach [] env)).all (λx=>x.1.isSome)
   && decide ((e::es).length+([]:List Keyword).length+(if ([]:List Keyword).isEmpty then 0 else 1)<30))=true:=by
 have h1:dD (e::es)=true:=by show (!dH e && dD es)=true;rw[hs,B6];rfl
 rw[Cn h1];have h2:es.length<29:=of_decide_eq_true cM
 show (true && true && decide (es.length+1+0+0<30))=true
 rw[decide_eq_true (by omega)];rfl
theorem qW (pa:PlainAttrs T)(slot:Slot T name id)(hty:typeOf (.builtin id)=pure (.type "method_descriptor"))(hck:ab9 ck T)(hm:FE G k id g)(ho:TV G k X o fo)(ha:xH G k X (e::es) fr)
  (t8:attributeBase o name X.env (eval o X.env)=eval o X.env:=by rfl)
  (hs:dH e=false:=by rfl) (B6:dD es=true:=by rfl) (cM:decide (es.length<29)=true:=by rfl) (t9:(eX.endLine == gA.line)=true:=by rfl):
  TV G k X (.Call (.Attribute o name eX) (e::es) [] gA) (xN ck g fo fr):=.mk<|λox =>
 (ahF pa slot hty (hm X ox) (ho ox) (ha ox) t8 (acd hs B6 cM) t9 (cU hs) (f6 B6)).wk λσ H Q h=>by
  obtain⟨w,S,τ,hr,sl,q⟩:=h;refine⟨w,S,τ,hr,sl,(aZ.az q).mono λx H1 oQ=>?_⟩
  obtain⟨w1,S1,t1,cX,bH,r1,_,q1⟩:=oQ;split at q1
  ·rename_i hk
   rw[ox.K];exact⟨hck G w1 S1 H1 t1 x bH r1 hk,w1,S1,τ,bH,sl.mono cX,(aZ.az q1).mono λxs H2 oR=>by obtain⟨w2,S2,ts,fj,dI,r2,_,q2⟩:=oR;exact⟨w2,S2,t1,ts,dI,RT.mono fj _ _ r1,r2,q2⟩⟩
  ·exact q1.elim
theorem Ul (pa:PlainAttrs T)(slot:Slot T name id)(hty:typeOf (.builtin id)=pure (.type "method_descriptor"))(hck:ab9 ck T)(hm:FE G k id g)(ho:TV G k X o fo)
  (t8:attributeBase o name X.env (eval o X.env)=eval o X.env:=by rfl) (t9:(eX.endLine == gA.line)=true:=by rfl):
  TV G k X (.Call (.Attribute o name eX) [] [] gA) (xN ck g fo ak):=.mk<|λox =>
 (abf pa slot hty (hm X ox) (ho ox) t8 t9).wk λσ H Q h=>by
  obtain⟨w,S,τ,hr,sl,q⟩:=h;refine⟨w,S,τ,hr,sl,(aZ.az q).mono λx H1 uy=>?_⟩
  obtain⟨w1,S1,t1,cX,bH,r1,_,q1⟩:=uy;split at q1
  ·rename_i hk
   rw[ox.K];exact⟨hck G w1 S1 H1 t1 x bH r1 hk,w1,S1,t1,[],bH,r1,.nil,q1⟩
  ·exact q1.elim
def CA:Tr->List Tr->Cs->R Tr:=λt ts S=>match t,ts with
 |.hd n,[u]=>(match cK S n with|some l=>if l.length<sizeLine then .ok .bq (S.set n (.bD (l++[u]))) else .ay|none=>.ay)
 |_,_=>.ay
def Um:Tr->List Tr->Cs->R Tr:=λt ts S=>match t,ts with
 |.hd n,[u]=>(match cK S n,Ez S u with|some l,some m=>if l.length+m.length<=sizeLine then .ok .bq (S.set n (.bD (l++m))) else .ay|_,_=>.ay)
 |_,_=>.ay
def asj:Tr->List Tr->Cs->R Tr:=λt ts S=>match t,ts with
 |.hd n,[]=>(match cK S n with|some l=>.ok .bq (S.set n (.bD l.reverse))|none=>.ay)
 |_,_=>.ay
def uD:Tr->List Tr->Cs->R Tr:=λt ts S=>match t,ts with
 |.hd n,[]=>(match cK S n with|some _=>.ok .bq (S.set n (.bD []))|none=>.ay)
 |_,_=>.ay
theorem putL (hr:HR G w S H)(e:cK S n=some l)(r:bG w l' ys):HR G w (S.set n (.bD l')) (bf H (w.ρ n) (.bD ys)):=
 hr.put (cG e) rfl rfl ⟨ys,aq,r⟩
theorem mZ:FE G k "list.append" CA:=.mk<|λX o ah s σ H x xs v us Q I rx rv uz=>by
 obtain⟨w,S,t,ts,hr,r,rs,q⟩:=uz;unfold CA at q;split at q
 ·split at q
  ·rename_i l e
   split at q
   ·obtain⟨y,rfl,r1⟩:=fu rs
    obtain⟨ys,h1,h2⟩:=hr.cell _ _ (cG e)
    exact yv ah s σ H x _ v us Q I rx rv ⟨_,ys,y,r.cQ.2,rfl,h1,by rw[h2.len];assumption,q w _ _ (.refl w) (putL hr e (h2.snoc r1)) qO⟩
   ·exact q.elim
  ·exact q.elim
 ·exact q.elim
theorem NV:FE G k "list.extend" Um:=.mk<|λX o ah s σ H x xs v us Q I rx rv FA=>by
 obtain⟨w,S,t,ts,hr,r,rs,q⟩:=FA;unfold Um at q;split at q
 ·split at q
  ·rename_i l m e em
   split at q
   ·obtain⟨y,rfl,r1⟩:=fu rs
    obtain⟨ys,h1,h2⟩:=hr.cell _ _ (cG e)
    obtain⟨b,zs,rfl,hb,R⟩:=oS hr r1 em;exact JO ah s σ H x _ v us Q I rx rv ⟨_,b,ys,zs,r.cQ.2,rfl,h1,hb,by rw[h2.len,R.len];assumption,q w _ _ (.refl w) (putL hr e (h2.sI R)) qO⟩
   ·exact q.elim
  ·exact q.elim
 ·exact q.elim
theorem Uo:FE G k "list.clear" uD:=.mk<|λX o ah s σ H x xs v us Q I rx rv ace=>by
 obtain⟨w,S,t,ts,hr,r,rs,q⟩:=ace;unfold uD at q;split at q
 ·split at q
  ·rename_i l e
   obtain⟨ys,h1,h2⟩:=hr.cell _ _ (cG e)
   exact MM ah s σ H x _ v us Q I rx rv ⟨_,ys,r.cQ.2,rs.b_,h1,q w _ _ (.refl w) (putL hr e .nil) qO⟩
  ·exact q.elim
 ·exact q.elim
theorem bG.ints:∀(l:List Int),bG w (l.map Tr.int) (l.map V.int)
 |[]=>.nil
 |x::l=>.cons dZ (bG.ints l)
end
section
variable {G:Gx}{k:Nat}{X:Cx}{a b c o e value:Expr}{es:List Expr}{fa fb fc fo fi fv f:Em}{fr:En->Cs->R (List Tr)}{pos jB p eX gA:Pos}{x:Str}
noncomputable def bB (i:Nat):Tr->En->Cs->R En:=λt τ S=>.ok (τ.set i (some t)) S
theorem Uq (hN:X.N.Nodup)(hi:X.N[i]? = some x)(hx:WI X.env.scope x)(hf:X.fn x=true\/X.env.scope.names.lookup x=some .local:=by first|exact .inl rfl|exact .inr rfl|assumption):Ka G k X (.Name x pos) (bB i):=.mk<|λ_=>(Sg hN hi hx hf).wk λv σ H Q h=>by
 obtain⟨w,S,τ,t,hr,sl,r,q⟩:=h;exact q w H _ (.refl w) hr (sl.set i r)
noncomputable abbrev Bs:=List Tr->En->Cs->R En
noncomputable def pU:Bs:=λts τ S=>match ts with|[]=>.ok τ S|_=>.ay
def dw (b:Tr->En->Cs->R En)(r:Bs):Bs:=λts τ S=>match ts with|t::l=>(b t τ S).az λfq S1=>r l fq S1|[]=>.ay
noncomputable def Xa (G:Gx)(f:Bs):WK:=λvs σ H Q=>∃w S τ ts,HR G w S H/\Sl w τ σ /\ bG w ts vs/\aZ Sl G w (f ts τ S) Q
structure FF (G:Gx) (k:Nat) (X:Cx) (ts:List Expr) (f:Bs):Prop where
 kY:jU G k X->RN X ts (Xa G f)
instance {G:Gx}{k:Nat}{X:Cx}{ts:List Expr}{f:Bs}:CoeFun (FF G k X ts f) (λ_=>jU G k X->RN X ts (Xa G f)):=⟨FF.kY⟩
theorem RN.wk (h:RN X ts t)(g:∀vs σ H Q,t' vs σ H Q->t vs σ H Q):RN X ts t':=λah s σ H vs us Q I r q=>h ah s σ H vs us Q I r (g _ _ _ _ q)
theorem HG:FF G k X [] pU:=.mk<|λ_=>Sh.wk λvs σ H Q h=>by
 obtain⟨w,S,τ,ts,hr,sl,r,q⟩:=h;unfold pU at q;split at q
 ·exact⟨r.b_,q w H _ (.refl w) hr sl⟩
 ·exact q.elim
theorem uE {b:Tr->En->Cs->R En}(h1:Ka G k X e b)(h2:FF G k X es r)(hs:(assignEach (e::es) X.env).map (·.2)=assign e X.env::(assignEach es X.env).map (·.2):=by rfl):FF G k X (e::es) (dw b r):=.mk<|λo=>(L8 (h1 o) (h2 o) hs).wk λvs σ H Q h=>by
 obtain⟨w,S,τ,ts,hr,sl,r,q⟩:=h;unfold dw at q;split at q
 ·obtain⟨v,vr,rfl,r1,r2⟩:=r.bA
  exact⟨v,vr,rfl,w,S,τ,_,hr,sl,r1,(aZ.az q).mono λσ1 H1 bU=>by obtain⟨w1,S1,fq,cX,bH,Cc,_,q1⟩:=bU;exact⟨w1,S1,fq,_,bH,Cc,bG.mono cX _ _ r2,q1⟩⟩
 ·exact q.elim
def kH (n:Nat)(r:Bs):Tr->En->Cs->R En:=λt τ S=>match R3 t with|some l=>if l.length=n then r l τ S else .ay|none=>.ay
def HH (n:Nat)(r:Bs):Tr->En->Cs->R En:=λt τ S=>match w9 S t with|some l=>if l.length=n then r l τ S else .ay|none=>.ay
theorem m_ (h:FF G k X es r)(hn:(assignEach es X.env).length=n:=by rfl)(om:(assignEach es X.env).findIdx? (·.1)=none:=by rfl)(hk:0<k:=by first|decide|omega):Ka G k X (.Tuple es kk pos) (kH n r):=.mk<|λo=>(aaE (o.d9 hk) (h o) hn om).wk λv σ H Q h=>by
 obtain⟨w,S,τ,t,hr,sl,r,q⟩:=h;unfold kH at q;split at q
 ·rename_i l el
  split at q
  ·obtain⟨a,xs,e1,sq,R⟩:=jj hr r el
   rw[<-o.K] at sq;exact⟨a,xs,e1,sq,by rw[R.len];assumption,w,S,τ,l,hr,sl,R,q⟩
  ·exact q.elim
 ·exact q.elim
theorem Ur (h:FF G k X es r)(hn:(assignEach es X.env).length=n:=by rfl)(om:(assignEach es X.env).findIdx? (·.1)=none:=by rfl)(hk:0<k:=by first|decide|omega):Ka G k X (.Tuple es kk pos) (HH n r):=.mk<|λo=>(TN (o.d9 hk) (h o) hn om).wk λv σ H Q h=>by
 obtain⟨w,S,τ,t,hr,sl,r,q⟩:=h;unfold HH at q;split at q
 ·rename_i l el
  split at q
  ·obtain⟨a,xs,e1,sq,R⟩:=ji hr r el
   rw[<-o.K] at sq;exact⟨a,xs,e1,sq,by rw[R.len];assumption,w,S,τ,l,hr,sl,R,q⟩
  ·exact q.elim
 ·exact q.elim
def asl (fo fi:Em):Tr->En->Cs->R En:=λt τ S=>(fo τ S).az λu S1=>(fi τ S1).az λj S2=>match u,j with
 |.hd n,.int i=>(match cK S2 n with|some l=>(match SY l.length i with|some m=>.ok τ (S2.set n (.bD (l.set m t)))|none=>.ay)|none=>.ay)
 |_,_=>.ay
noncomputable def aD:Sm:=λτ S=>.nx τ S
noncomputable def ao (f g:Sm):Sm:=λτ S=>match f τ S with|.nx fq S1=>g fq S1|r=>r
def fB (f:Em):Sm:=λτ S=>(f τ S).bQ λ_ S1=>.nx τ S1
def aE (f:Em):Sm:=λτ S=>(f τ S).bQ λt S1=>.rt t S1
def cH (c:En->Cs->R Bool)(f g:Sm):Sm:=λτ S=>(c τ S).bQ λb S1=>if b=true then f τ S1 else g τ S1
def br (i:Nat)(f:Em):Sm:=λτ S=>(f τ S).bQ λt S1=>.nx (τ.set i (some t)) S1
def Kd (f:Em)(b:Tr->En->Cs->R En):Sm:=λτ S=>(f τ S).bQ λt S1=>(b t τ S1).bQ λfq S2=>.nx fq S2
noncomputable def NW:Sm:=λτ S=>.ct τ S
variable {st:Stmt}{dg:List Stmt}{s1 s2:Sm}
theorem ng:J_ G k X [] aD:=.mk<|λ_=>Sf.wk λD σ H h=>by
 obtain⟨w,S,τ,hr,sl,q⟩:=h;exact q w H σ (.refl w) hr sl
theorem jW (h:xJ G k X st s1):J_ G k X [st] s1:=.mk<|λo=>G4 (h o)
theorem jJ (h1:xJ G k X st s1)(h2:J_ G k X dg s2):J_ G k X (st::dg) (ao s1 s2):=.mk<|λo=>(tN (h1 o) (h2 o)).wk λD σ H h=>by
 obtain⟨w,S,τ,hr,sl,q⟩:=h;refine⟨w,S,τ,hr,sl,?_⟩
 unfold ao at q;split at q
 ·rename_i fq S1 e
  rw[e];exact λw' H' eV le xO sl'=>⟨w',S1,fq,xO,sl',bV.wd le q⟩
 ·rename_i r o_
  cases e:s1 τ S with
  |nx fq S1=>exact absurd e (o_ fq S1)
  |rt t S1=>rw[e] at q;exact q
  |bk t S1=>rw[e] at q;exact q
  |ct t S1=>rw[e] at q;exact q
  |ex t S1=>rw[e] at q;exact q
  |ay=>rw[e] at q;exact q
theorem CB:xJ G k X (.Continue pos) NW:=.mk<|λ_=>BU.wk λD σ H h=>by
 obtain⟨w,S,τ,hr,sl,q⟩:=h;exact q w H σ (.refl w) hr sl
theorem Us (he:TV G k X e f)(hs:swapsWith e none pos.line X.env=pure false:=by rfl):xJ G k X (.Expr e pos) (fB f):=.mk<|λo=>(G5 (he o) hs).wk λD σ H h=>by
 obtain⟨w,S,τ,hr,sl,q⟩:=h;exact⟨w,S,τ,hr,sl,(bV.az q).mono λv H1 mS=>by obtain⟨w1,S1,t1,cX,bH,r1,_,q1⟩:=mS;exact q1 w1 H1 σ (.refl _) bH (sl.mono cX)⟩
theorem lE (he:TV G k X e f):xJ G k X (.Return (some e) pos) (aE f):=.mk<|λo=>(aaD (he o)).wk λD σ H h=>by
 obtain⟨w,S,τ,hr,sl,q⟩:=h;exact⟨w,S,τ,hr,sl,(bV.az q).mono λv H1 jg=>by obtain⟨w1,S1,t1,cX,bH,r1,_,q1⟩:=jg;exact q1 w1 H1 v (.refl _) bH r1⟩
theorem rR (hc:Cm G k X c ta)(ha:J_ G k X as s1)(hb:J_ G k X bs s2):xJ G k X (.If c as bs pos) (cH ta s1 s2):=.mk<|λo=>(agZ (hc o) (ha o) (hb o)).wk λD σ H h=>by
 obtain⟨w,S,τ,hr,sl,q⟩:=h;refine⟨w,S,τ,hr,sl,(bV.az q).mono λx H1 ki=>?_⟩
 obtain⟨w1,S1,t1,cX,bH,r1,_,q1⟩:=ki;subst r1;cases t1 with
 |true=>rw[if_pos rfl] at q1;exact B8 ⟨w1,S1,τ,bH,sl.mono cX,q1⟩
 |false=>rw[if_neg zai] at q1;exact B7 ⟨w1,S1,τ,bH,sl.mono cX,q1⟩
theorem NX (h:Nz G (br i f) D σ H):Si (dU G f) (G6 i) D σ H:=by
 obtain⟨w,S,τ,hr,sl,q⟩:=h;exact⟨w,S,τ,hr,sl,(bV.az q).mono λv H1 gD=>by obtain⟨w1,S1,t1,cX,bH,r1,_,q1⟩:=gD;exact q1 w1 H1 _ (.refl _) bH ((sl.mono cX).set i r1)⟩
theorem acf (hN:X.N.Nodup)(hi:X.N[i]? = some x)(hx:WI X.env.scope x)(he:TV G k X e f)(hs:swapsWith e (some (.Name x jB)) pos.line X.env=pure false:=by rfl)(hf:X.fn x=true\/X.env.scope.names.lookup x=some .local:=by first|exact .inl rfl|exact .inr rfl|assumption):
  xJ G k X (.Assign [.Name x jB] e pos) (br i f):=.mk<|λo=>(aaG hN hi hx (he o) hs hf).wk λ_ _ _ h=>NX h
theorem acg {b:Tr->En->Cs->R En}(he:TV G k X e f)(hg:Ka G k X tg b)(hs:swapsWithSole [tg] e pos.line X.env=pure false:=by rfl)(hw:swappedStores [tg] e X.env=pure none:=by rfl)
  (h1:(assignEach [tg] X.env).map (·.2)=[assign tg X.env]:=by rfl):xJ G k X (.Assign [tg] e pos) (Kd f b):=.mk<|λo=>(aaF (he o) (hg o) hs hw h1).wk λD σ H h=>by
 obtain⟨w,S,τ,hr,sl,q⟩:=h;exact⟨w,S,τ,hr,sl,(bV.az q).mono λv H1 kC=>by obtain⟨w1,S1,t1,cX,bH,r1,_,q1⟩:=kC;exact⟨w1,S1,τ,t1,bH,sl.mono cX,r1,(bV.az q1).mono λBD H2 Cq=>by obtain⟨w2,S2,oA,fj,dI,ME,_,q2⟩:=Cq;exact q2 w2 H2 BD (.refl _) dI ME⟩⟩
def ach (i j:Nat)(fr:En->Cs->R (List Tr)):Sm:=λτ S=>(fr τ S).bQ λts S1=>match ts with|[t,u]=>.nx ((τ.set i (some t)).set j (some u)) S1|_=>.ay
theorem aci {kt k2 pt2}(hN:X.N.Nodup)(hi:X.N[i]? = some x)(hj:X.N[j]? = some y)(hij:i≠j)
  (hx:X.env.scope.names.lookup x=some .local) (hy:X.env.scope.names.lookup y=some .local) (ha:xH G k X [a,b] fr)
  (hw:swappedStores [.Tuple [.Name x px,.Name y py] kt pt] (.Tuple [a,b] k2 pt2) X.env=pure (some [x,y]))
  (hs:swapsWithSole [.Tuple [.Name x px,.Name y py] kt pt] (.Tuple [a,b] k2 pt2) pos.line X.env=pure false:=by rfl) (hk:0<k:=by first|decide|omega):
  xJ G k X (.Assign [.Tuple [.Name x px,.Name y py] kt pt] (.Tuple [a,b] k2 pt2) pos) (ach i j fr):=.mk<|λo=>(aaH (o.d9 hk) hN hi hj hij hx hy (ha o) hw hs).wk λD σ H h=>by
 obtain⟨w,S,τ,hr,sl,q⟩:=h;refine⟨w,S,τ,hr,sl,(bV.az q).mono λvs H1 pQ=>?_⟩
 obtain⟨w1,S1,ts,cX,bH,r1,_,q1⟩:=pQ;split at q1
 ·obtain⟨v,u,rfl,g1,g2⟩:=sV r1
  exact⟨v,u,rfl,q1 w1 H1 _ (.refl _) bH (((sl.mono cX).set i g1).set j g2)⟩
 ·exact q1.elim
def pV (u j t:Tr)(S:Cs):R Unit:=match u with
 |.hd n=>(match iz j with|some q=>(match pR S n with|some m=>if m.length<sizeLine then .ok () (S.set n (.iy (gy m q t))) else .ay|none=>.ay)|none=>.ay)
 |_=>.ay
theorem NY {x y v:V}(hr:HR G w S H)(ru:RT w u x)(rj:RT w j y)(rt:RT w t v)(e:pV u j t S = .ok () S'):∃a H',x = .ref a/\tY H a y v H'/\HR G w S' H':=by
 unfold pV at e;split at e
 ·split at e
  ·rename_i q ek
   split at e
   ·rename_i m em
    split at e
    ·cases e
     obtain⟨aI,h1,h2⟩:=hr.cell _ _ (gZ em)
     refine⟨_,_,ru.cQ.2,by rw[f7 ek rj];exact tY.k h1 (by rw[h2.len];assumption),?_⟩
     exact hr.put (gZ em) rfl rfl ⟨_,aq,h2.put q rt⟩
    ·cases e
   ·cases e
  ·cases e
 ·cases e
def oE (fo fi fv:Em):Sm:=λτ S=>(fv τ S).bQ λt S1=>(fo τ S1).bQ λu S2=>(fi τ S2).bQ λj S3=>(pV u j t S3).bQ λ_ S4=>.nx τ S4
theorem FG:pV u j t S ≠ .ex n S':=by
 unfold pV;split<;>(try split)<;>(try split)<;>(try split)<;>simp
theorem AE (ho:TV G k X o fo)(hi:TV G k X i fi)(hv:TV G k X value fv)(hs:swapsWith value (some (.Subscript o i jB)) pos.line X.env=pure false:=by rfl):xJ G k X (.Assign [.Subscript o i jB] value pos) (oE fo fi fv):=.mk<|λox=>(Hh ox.W4 (ho ox) (hi ox) (hv ox) hs).wk λD σ H h=>by
 obtain⟨w,S,τ,hr,sl,q⟩:=h;refine⟨w,S,τ,hr,sl,(bV.az q).mono λv H1 ly=>?_⟩
 obtain⟨w1,S1,t,cX,bH,r1,_,q1⟩:=ly;refine⟨w1,S1,τ,bH,sl.mono cX,(bV.az q1).mono λx H2 uw=>?_⟩
 obtain⟨w2,S2,u,fj,dI,r2,_,q2⟩:=uw;refine⟨w2,S2,τ,dI,(sl.mono cX).mono fj,(bV.az q2).mono λy H3 lA=>?_⟩
 obtain⟨w3,S3,j,jb,nH,r3,_,q3⟩:=lA;cases e:pV u j t S3 with
 |ok z S4 =>
  rw[e] at q3;obtain⟨a,H4,e1,d,HA⟩:=NY nH (RT.mono jb _ _ r2) r3 (RT.mono (fj.trans jb) _ _ r1) e
  exact⟨a,H4,e1,d,q3 w3 _ σ (.refl _) HA (((sl.mono cX).mono fj).mono jb)⟩
 |ex n S4=>exact absurd e FG
 |ay=>rw[e] at q3;exact q3.elim
def fC (G:Gx)(cs:List Str)(f:Str):Prop:=∀c∈cs,wZ G.K (G.cl c)/\cu G.K (G.cl c) f
def Ke (cs:List Str)(f:Str)(t:Tr)(S:Cs):R Tr:=match t with
 |.hd n=>(match iT S n with|some (c,fs)=>if c∈cs then (match aN f fs with|some u=>.ok u S|none=>.ay) else .ay|none=>.ay)
 |_=>.ay
def bw (cs:List Str)(f:Str)(fo:Em):Em:=λτ S=>(fo τ S).az λt S1=>Ke cs f t S1
theorem aB {f:Str}(hf:fC G cs f)(ho:TV G k X o fo)(hb:attributeBase o f X.env (eval o X.env)=eval o X.env:=by rfl):TV G k X (.Attribute o f pos) (bw cs f fo):=.mk<|λox=>(aaV (ho ox) hb).wk λσ H Q h=>by
 obtain⟨w,S,τ,hr,sl,q⟩:=h;refine⟨w,S,τ,hr,sl,(aZ.az q).mono λx H1 lB=>?_⟩
 obtain⟨w1,S1,t1,cX,bH,r1,_,q1⟩:=lB;unfold Ke at q1;split at q1
 ·split at q1
  ·rename_i c fs ei
   split at q1
   ·rename_i hc
    split at q1
    ·rename_i u eu
     obtain⟨dx,xF,h1,h2⟩:=bH.cell _ _ (fL ei)
     obtain⟨v,ev,rv⟩:=(iA (k:=f) h2).1 u eu
     obtain⟨c1,c2⟩:=hf c hc;rw[<-ox.K] at c1 c2;exact⟨_,_,dx,xF,v,r1.cQ.2,h1,c1,c2,ev,q1 w1 H1 v (.refl _) bH rv⟩
    ·exact q1.elim
   ·exact q1.elim
  ·exact q1.elim
 ·exact q1.elim
def pW (cs:List Str)(f:Str)(t v:Tr)(S:Cs):R Unit:=match t with
 |.hd n=>(match iT S n with|some (c,fs)=>if c∈cs/\fs.length<1000 then .ok () (S.set n (.fH c (cy f v fs))) else .ay|none=>.ay)
 |_=>.ay
def cg (cs:List Str)(f:Str)(fo fv:Em):Sm:=λτ S=>(fv τ S).bQ λt S1=>(fo τ S1).bQ λu S2=>(pW cs f u t S2).bQ λ_ S3=>.nx τ S3
theorem Ut {f:Str}{x y:V}(hf:fC G cs f)(hr:HR G w S H)(rt:RT w t x)(ru:RT w u y)(e:pW cs f t u S = .ok () S'):
  ∃a C dx fs,x = .ref a/\H a=some (.fH C dx fs)/\wZ G.K C/\cu G.K C f/\fs.length<1000/\HR G w S' (bf H a (.fH C dx (gB f y fs))):=by
 unfold pW at e;split at e
 ·split at e
  ·rename_i c fs ei
   split at e
   ·rename_i hc
    cases e;obtain⟨dx,xF,h1,h2⟩:=hr.cell _ _ (fL ei)
    obtain⟨c1,c2⟩:=hf c hc.1;exact⟨_,_,dx,xF,rt.cQ.2,h1,c1,c2,by rw[h2.len];exact hc.2,hr.put (fL ei) rfl rfl ⟨dx,_,aq,h2.gB f ru⟩⟩
   ·cases e
  ·cases e
 ·cases e
theorem aX {f:Str}(hf:fC G cs f)(ho:TV G k X o fo)(hv:TV G k X value fv)(hs:swapsWith value (some (.Attribute o f jB)) pos.line X.env=pure false:=by rfl):xJ G k X (.Assign [.Attribute o f jB] value pos) (cg cs f fo fv):=.mk<|λox=>(aaW (ho ox) (hv ox) hs).wk λD σ H h=>by
 obtain⟨w,S,τ,hr,sl,q⟩:=h;refine⟨w,S,τ,hr,sl,(bV.az q).mono λv H1 oQ=>?_⟩
 obtain⟨w1,S1,t,cX,bH,r1,_,q1⟩:=oQ;refine⟨w1,S1,τ,bH,sl.mono cX,(bV.az q1).mono λx H2 oR=>?_⟩
 obtain⟨w2,S2,u,fj,dI,r2,_,q2⟩:=oR;cases e:pW cs f u t S2 with
 |ok z S3 =>
  rw[e] at q2;obtain⟨a,C,dx,fs,e1,h1,c1,c2,hl,nH⟩:=Ut hf dI r2 (RT.mono fj _ _ r1) e
  rw[<-ox.K] at c1 c2;exact⟨a,C,dx,fs,e1,h1,c1,c2,hl,q2 w2 _ σ (.refl _) nH ((sl.mono cX).mono fj)⟩
 |ex n S3=>exact absurd e (by unfold pW;split<;>(try split)<;>(try split)<;>simp)
 |ay=>rw[e] at q2;exact q2.elim
def yL (cs:List Str)(f:Str)(g:Int->Int->Int)(fo fv:Em):Sm:=λτ S=>(fo τ S).bQ λt S1=>match t with
 |.hd n=>(match iT S1 n with
  |some (c,fs)=>if c∈cs then (match aN f fs with
   |some (.int i)=>(fv τ S1).bQ λy S2=>(match y with
    |.int j=>(match iT S2 n with|some (c',LG)=>if c'=c/\LG.length<1000 then .nx τ (S2.set n (.fH c (cy f (.int (g i j)) LG))) else .ay|none=>.ay)
    |_=>.ay)
   |_=>.ay) else .ay
  |none=>.ay)
 |_=>.ay
theorem sW {f:Str}(hop:∀X:Cx,SE X op (λx y H Q=>∃i j,x = .int i/\y = .int j/\Q (.int (g i j)) H))(hf:fC G cs f)(ho:TV G k X o fo)(hv:TV G k X value fv):xJ G k X (.AugAssign (.Attribute o f jB) op value pos) (yL cs f g fo fv):=.mk<|λox=>(JH (ho ox) (hv ox) (hop X)).wk λD σ H h=>by
 obtain⟨w,S,τ,hr,sl,q⟩:=h;refine⟨w,S,τ,hr,sl,(bV.az q).mono λx H1 uy=>?_⟩
 obtain⟨w1,S1,t,cX,bH,r1,_,q1⟩:=uy;split at q1
 ·rename_i n
  split at q1
  ·rename_i c fs ei
   split at q1
   ·rename_i hc
    split at q1
    ·rename_i i eu
     obtain⟨dx,xF,h1,h2⟩:=bH.cell _ _ (fL ei)
     obtain⟨v,ev,rv⟩:=(iA (k:=f) h2).1 _ eu
     obtain⟨c1,c2⟩:=hf c hc;rw[<-ox.K] at c1 c2;refine⟨_,_,dx,xF,v,r1.cQ.2,h1,c1,c2,ev,w1,S1,τ,bH,sl.mono cX,(bV.az q1).mono λy H2 uz=>?_⟩
     obtain⟨w2,S2,t2,fj,dI,r2,_,q2⟩:=uz;split at q2
     ·rename_i j
      split at q2
      ·rename_i c' LG ei'
       split at q2
       ·rename_i hl
        obtain⟨rfl,hl⟩:=hl;obtain⟨dx',anC,h1',HJ⟩:=dI.cell _ _ (fL ei')
        have e0:=fj.r _ r1.cQ.1;rw[e0] at h1';refine⟨i,_,aK rv,aK r2,dx',anC,h1',by rw[HJ.len];exact hl,q2 w2 _ σ (.refl _) ?_ ((sl.mono cX).mono fj)⟩
        rw[<-e0];exact dI.put (fL ei') rfl rfl ⟨dx',_,aq,HJ.gB f dZ⟩
       ·exact q2.elim
      ·exact q2.elim
     ·exact q2.elim
    ·exact q1.elim
   ·exact q1.elim
  ·exact q1.elim
 ·exact q1.elim
theorem sX:∀X:Cx,SE X .Add (λx y H Q=>∃i j,x = .int i/\y = .int j/\Q (.int (i+j)) H):=λ_=>aaX
end
structure yM where
 items:List Tr
 iC:Cs->Prop
def acj (G:Gx)(w:Wd)(s:yM)(J:It):Prop:=∀(w1:Wd) (S1:Cs) (H1:Hp) (i:Nat),w.K=w1.K->w.n<=w1.n->(∀i,i<w.n->w1.ρ i=w.ρ i)->(∀b o,w.F b=some o->w1.F b=some o)->HR G w1 S1 H1->s.iC S1 ->
 (∀t,s.items[i]? = some t->J.go i H1/\∀x H2,J.yld i H1 x H2->∃w2,w1.le w2/\HR G w2 S1 H2/\RT w2 t x)/\(i=s.items.length->J.stop i H1)
def Uu (G:Gx)(f:En->Cs->R yM):TI:=λσ H Q=>∃w S τ,HR G w S H/\Sl w τ σ /\ aZ (λw s J=>acj G w s J) G w (f τ S) Q
structure R4 (G:Gx) (k:Nat) (X:Cx) (tg dS:Expr) (f:En->Cs->R yM):Prop where
 kY:jU G k X->PI X tg dS (Uu G f)
instance {G:Gx}{k:Nat}{X:Cx}{tg dS:Expr}{f:En->Cs->R yM}:CoeFun (R4 G k X tg dS f) (λ_=>jU G k X->PI X tg dS (Uu G f)):=⟨R4.kY⟩
section
variable {G:Gx}{k:Nat}{X:Cx}{a b c o e tg:Expr}{es:List Expr}{fa fb f:Em}{fr:En->Cs->R (List Tr)}{pos p:Pos}
theorem PI.wk (h:PI X tg dS t)(g:∀ σ H Q,t' σ H Q->t σ H Q):PI X tg dS t':=λah s σ H R I q=>h ah s σ H R I (g _ _ _ q)
theorem RT.uF (hK:w.K=w1.K)(hn:w.n<=w1.n)(iS:∀i,i<w.n->w1.ρ i=w.ρ i)(hF:∀b o,w.F b=some o->w1.F b=some o)(r:RT w t v):RT w1 t v:=
 RT.mono (w:={w with hid:=w1.hid}) ⟨hK.symm,hn,iS,hF,rfl⟩ t v (RT.bg _ t v r)
theorem bG.uF (hK:w.K=w1.K)(hn:w.n<=w1.n)(iS:∀i,i<w.n->w1.ρ i=w.ρ i)(hF:∀b o,w.F b=some o->w1.F b=some o)(r:bG w l xs):bG w1 l xs:=
 bG.mono (w:={w with hid:=w1.hid}) ⟨hK.symm,hn,iS,hF,rfl⟩ l xs (bG.bg _ l xs r)
def iL:Tr->Cs->R yM:=λt S=>match t with
 |.ls l=>.ok ⟨l,λ_=>True⟩ S
 |.kl l=>.ok ⟨l,λ_=>True⟩ S
 |.hd n=>(match cK S n with|some l=>.ok ⟨l,λS'=>cK S' n=some l⟩ S|none=>.ay)
 |_=>.ay
def qX (g:Tr->Cs->R yM)(f:Em):En->Cs->R yM:=λτ S=>(f τ S).az λt S1=>g t S1
def aiD (G:Gx)(w:Wd)(s:yM)(a:Addr)(l:List Tr):Prop:=s.items=l/\∀(w1:Wd) (S1:Cs) (H1:Hp),w.K=w1.K->w.n<=w1.n->(∀i,i<w.n->w1.ρ i=w.ρ i)->(∀b o,w.F b=some o->w1.F b=some o)->HR G w1 S1 H1->s.iC S1->∃xs,jy G.K H1 a xs/\bG w1 l xs
theorem AF (hr:HR G w S H)(r:RT w t v)(e:iL t S = .ok s S'):S'=S/\∃a l,v = .ref a/\(∃xs,jy G.K H a xs/\bG w l xs)/\aiD G w s a l:=by
 unfold iL at e;split at e
 ·cases e
  unfold RT at r;obtain⟨a,xs,rfl,h,r⟩:=r;exact⟨rfl,a,_,rfl,⟨xs,jy.of (hr.sub _ _ h),r⟩,rfl,λw1 S1 H1 hK hn iS hF bH _=>⟨xs,jy.of (bH.sub _ _ (hF _ _ h)),r.uF hK hn iS hF⟩⟩
 ·cases e
  unfold RT at r;obtain⟨a,xs,rfl,h,r⟩:=r;exact⟨rfl,a,_,rfl,⟨xs,hr.sqL h,r⟩,rfl,λw1 S1 H1 hK hn iS hF bH _=>⟨xs,bH.sqL (by rw[<-hK];exact h.mono hF),r.uF hK hn iS hF⟩⟩
 ·rename_i n
  split at e
  ·rename_i l el
   cases e;obtain⟨xs,h1,h2⟩:=hr.cell _ _ (cG el)
   have hi:=r.cQ;refine⟨rfl,_,l,hi.2,⟨xs,jy.of h1,h2⟩,rfl,λw1 S1 H1 hK hn iS hF bH hc=>?_⟩
   obtain⟨ys,h3,h4⟩:=bH.cell _ _ (cG hc)
   rw[iS _ hi.1] at h3;exact⟨ys,jy.of h3,h4⟩
  ·cases e
 ·cases e
theorem AG:iL t S ≠ .ex n S':=by
 unfold iL;split<;>(try split)<;>simp
theorem Uv (ha:TV G k X a fa):R4 G k X tg a (qX iL fa):=.mk<|λox=>(Sj (ha ox)).wk λσ H Q h=>by
 obtain⟨w,S,τ,hr,sl,q⟩:=h;refine⟨w,S,τ,hr,sl,(aZ.az q).mono λx H1 bU=>?_⟩
 obtain⟨w1,S1,t1,cX,bH,r1,_,q1⟩:=bU;cases e:iL t1 S1 with
 |ok s S2 =>
  rw[e] at q1;obtain⟨rfl,p,l,rfl,⟨xs,sq,R⟩,ei,st⟩:=AF bH r1 e
  refine⟨p,rfl,⟨xs,by rw[ox.K];exact sq⟩,q1 w1 H1 _ (.refl _) bH λw2 S2 H2 i hK hn iS hF dI hc=>?_⟩
  obtain⟨ys,sq2,R2⟩:=st w2 S2 H2 hK hn iS hF dI hc;rw[ei];refine⟨λt et=>?_,λhi=>⟨ys,by rw[ox.K];exact sq2,by rw[R2.len,hi];exact zaf _⟩⟩
  obtain⟨v,ev,rv⟩:=R2.get et;refine⟨⟨ys,v,by rw[ox.K];exact sq2,ev⟩,λy H3 dh=>?_⟩
  obtain⟨e3,hy⟩:=dh;subst e3
  have:=hy ys (by rw[ox.K];exact sq2)
  rw[ev] at this;cases this;exact⟨w2,.refl _,dI,rv⟩
 |ex n S2=>exact absurd e AG
 |ay=>rw[e] at q1;exact q1.elim
noncomputable def sL (lo:Int)(n:Nat):List Tr:=(List.range n).map λ(j:Nat)=>Tr.int (lo+j)
def yN (fr:En->Cs->R (List Tr)):En->Cs->R yM:=λτ S=>(fr τ S).az λts S1=>match ts with
 |[.int j]=>xG (-(2 ^ 62)<=j/\j<2 ^ 62) (.ok ⟨sL 0 j.toNat,λ_=>True⟩ S1) .ay
 |_=>.ay
theorem acm {lo:Int}:acj G w ⟨sL lo n,λ_=>True⟩ (Itr lo n):=λw2 S2 H2 i hK hn iS hF dI hc=>by
 refine⟨λt et=>?_,λhi=>?_⟩
 ·have et:(sL lo n)[i]? = some t:=et
  unfold sL at et;rw[zar] at et;have jD:i<n:=by
   cases ec:(List.range n)[i]? with
   |none=>rw[ec] at et;cases et
   |some c=>simpa using (zae.mp ec).1
  rw[List.getElem?_range jD] at et;cases et;refine⟨jD,λy H3 gD=>?_⟩
  obtain⟨e3,ey⟩:=gD;subst e3;subst ey;exact⟨w2,.refl _,dI,dZ⟩
 ·show n<=i
  have hi:i=(sL lo n).length:=hi
  unfold sL at hi;simp at hi
  omega
theorem AH (hm:X.mg "range"=none)(ha:xH G k X [a] fr)(hg:Gl X "range" := by rfl)(hs:dH a=false:=by rfl):R4 G k X tg (.Call (.Name "range" p) [a] [] pos) (yN fr):=.mk<|λox=>(JD hg hm (ha ox) (cU hs)).wk λσ H Q h=>by
 obtain⟨w,S,τ,hr,sl,q⟩:=h;refine⟨w,S,τ,hr,sl,(aZ.az q).mono λxs H1 kC=>?_⟩
 obtain⟨w1,S1,ts,cX,bH,r1,_,q1⟩:=kC;split at q1
 ·unfold xG at q1
  split at q1
  ·rename_i h
   obtain⟨x,rfl,rx⟩:=fu r1;exact⟨_,by rw[aK rx],h.1,h.2,q1 w1 H1 _ (.refl _) bH acm⟩
  ·exact q1.elim
 ·exact q1.elim
noncomputable def lpS (r:RS)(g:Sm):RS:=match r with|.nx τ S=>g τ S|.ct τ S=>g τ S|.bk τ S=>.nx τ S|.rt t S=>.rt t S|.ex n S=>.ex n S|.ay=>.ay
open Classical in
def jl (iC:Cs->Prop)(b:Tr->En->Cs->R En)(f:Sm):List Tr->En->Cs->RS
 |[],τ,S=>if iC S then .nx τ S else .ay
 |t::r,τ,S=>if iC S then (b t τ S).bQ λfq S1=>lpS (f fq S1) (jl iC b f r) else .ay
def xP (fi:En->Cs->R yM)(b:Tr->En->Cs->R En)(f:Sm):Sm:=λτ S=>(fi τ S).bQ λs S1=>jl s.iC b f s.items τ S1
theorem Uw (h:bV G w (lpS r g) D)(hN:∀w' H' eV τ S,w.le w'->HR G w' S H'->Sl w' τ eV->bV G w' (g τ S) D->N eV H'):bV G w r {D with nx:=N,ct:=N,bk:=D.nx}:=by
 cases r with
 |nx τ S=>exact λw' H' eV le hr sl=>hN w' H' eV τ S le hr sl (bV.wd le h)
 |ct τ S=>exact λw' H' eV le hr sl=>hN w' H' eV τ S le hr sl (bV.wd le h)
 |bk τ S=>exact h
 |rt τ S=>exact h
 |ex τ S=>exact h
 |ay=>exact h
theorem oV (hp:PassesOwn (model X.prog X.w) X.A X.env X.xe)(hi:R4 G k X tg dS fi)(hg:Ka G k X tg bt)(hb:J_ G k X body sb)(hs:∀x,foldedSetIterable dS X.env x=pure x:=by intro _;rfl)(hk:0<k:=by first|decide|omega):xJ G k X (.For tg dS body [] pos) (xP fi bt sb):=.mk<|λox =>
 (aaJ hp (ox.d9 hk) (hi ox) (hg ox) (hb ox) hs).wk λD σ H h=>by
  obtain⟨w,S,τ,hr,sl,q⟩:=h;refine⟨w,S,τ,hr,sl,(bV.az q).mono λJ H1 lB=>?_⟩
  obtain⟨w1,S1,s,cX,bH,it,_,q1⟩:=lB;refine⟨λi m BD H2=>∃w2 S2 oA,w1.le w2/\HR G w2 S2 H2/\Sl w2 oA BD/\i<=s.items.length/\m=s.items.length - i/\bV G w2 (jl s.iC bt sb (s.items.drop i) oA S2) D,⟨_,w1,S1,τ,.refl _,bH,sl.mono cX,zbM _,rfl,q1⟩,?_⟩
  rintro i m BD H2 ⟨w2,S2,oA,fj,dI,ME,hi,rfl,q2⟩
  by_cases jD:i<s.items.length
  ·have ed:s.items.drop i=s.items[i]::s.items.drop (i+1):=zdc jD
   rw[ed] at q2;unfold jl at q2;split at q2
   ·rename_i hc
    obtain⟨go,yl⟩:=(it w2 S2 H2 i fj.K.symm fj.n fj.r fj.F dI hc).1 s.items[i] (zag jD)
    refine .inr ⟨go,λeV H'=>∃m',m' < s.items.length - i/\∃w2 S2 oA,w1.le w2/\HR G w2 S2 H'/\Sl w2 oA eV/\i+1<=s.items.length/\m'=s.items.length - (i+1)/\bV G w2 (jl s.iC bt sb (s.items.drop (i+1)) oA S2) D,λeV H' h=>h,λx H' hy=>?_⟩
    obtain⟨w3,jb,nH,r3⟩:=yl x H' hy;refine⟨w3,S2,oA,_,nH,ME.mono jb,r3,(bV.az (bV.wd jb q2)).mono λσ4 H4 ⟨w4,S4,EE,NF,HA,sl4,_,q4⟩=>⟨w4,S4,EE,HA,sl4,Uw q4 λw5 H5 σ5 τ5 S5 le5 hr5 sl5 q5=>?_⟩⟩
    exact⟨_,by omega,w5,S5,τ5,((fj.trans jb).trans NF).trans le5,hr5,sl5,jD,rfl,q5⟩
   ·exact q2.elim
  ·have e:i=s.items.length:=by omega
   subst e;rw[List.drop_length] at q2;unfold jl at q2;split at q2
   ·rename_i hc
    exact .inl ⟨(it w2 S2 H2 _ fj.K.symm fj.n fj.r fj.F dI hc).2 rfl,q2 w2 H2 BD (.refl _) dI ME⟩
   ·exact q2.elim
end
noncomputable def Gx.nx (G:Gx):Gx:={G with E:=E0}
theorem bz.nx:bz G.nx w H a c↔bz G w H a c:=by cases c<;>exact Iff.rfl
theorem HR.nx (h:HR G w S H):HR G.nx w S H:=⟨h.K,h.n,h.F,λi c e=>bz.nx.mpr (h.cell i c e),h.inj,h.hid,h.ku,h.hl⟩
theorem HR.unx (h:HR G.nx w S H):HR G w S H:=⟨h.K,h.n,h.F,λi c e=>bz.nx.mp (h.cell i c e),h.inj,h.hid,h.ku,h.hl⟩
noncomputable def jA {α:Type}(r:R α):R α:= match r with|.ok a s=>.ok a s|_=>.ay
noncomputable def iN (fr:List Nat)(n:Nat)(τ:En):En:=(fr.map λj=>(τ[j]?).join)++List.replicate n none
noncomputable def iV:En->Cs->R Bool:=λ_ S=>.ok true S
open Classical in
def cV (iC:Cs->Prop)(b:Tr->En->Cs->R En)(c:En->Cs->R Bool)(f:Em):List Tr->En->List Tr->Cs->R (List Tr)
 |[],_,bO,S=>if iC S then .ok bO S else .ay
 |t::r,τ,bO,S=>if iC S then (jA (b t τ S)).az λfq S1=>(jA (c fq S1)).az λx S2=>if x=true then (jA (f fq S2)).az λu S3=>(if bO.length<sizeLine then cV iC b c f r fq (bO++[u]) S3 else .ay) else cV iC b c f r fq bO S2 else .ay
def fD (fi:En->Cs->R yM)(fr:List Nat)(n:Nat)(b:Tr->En->Cs->R En)(c:En->Cs->R Bool)(f:Em):Em:=λτ S=>(fi τ S).az λs S1=>(cV s.iC b c f s.items (iN fr n τ) [] S1).az λl S2=>.ok (.ls l) S2
def FH (fi:En->Cs->R yM)(fr:List Nat)(n:Nat)(b:Tr->En->Cs->R En)(c:En->Cs->R Bool)(f:Em):Em:=λτ S=>(fi τ S).az λs S1=>(cV s.iC b c f s.items (iN fr n τ) [] S1).az λl S2=>.ok (.hd S2.length) (S2++[.bD l])
structure FI (G:Gx) (k:Nat) (X:Cx) (qL:List Expr) (c:En->Cs->R Bool):Prop where
 kY:jU G k X->Fc X qL (Ck G c)
instance {G:Gx}{k:Nat}{X:Cx}{qL:List Expr}{c:En->Cs->R Bool}:CoeFun (FI G k X qL c) (λ_=>jU G k X->Fc X qL (Ck G c)):=⟨FI.kY⟩
section
variable {G:Gx}{k:Nat}{X:Cx}
theorem Uy:FI G k X [] iV:=.mk<|λ_ ah s σ H Q I bU=>by obtain⟨w,S,τ,hr,sl,q⟩:=bU;exact Tn ah s σ H Q I (q w H _ (.refl w) hr rfl)
theorem Uz (h:Cm G k X c t):FI G k X [c] t:=.mk<|λo=>To (h o)
theorem jU.comp (o:jU G k X):jU G.nx k (pK X N sc C fp s H xe):=⟨o.K,o.d9,o.room,o.un⟩
theorem UA (sl:Sl w τ σ)(j:Nat)(h:(τ[j]?).join=some t):∃v,(σ[j]?).join=some v/\RT w t v:=by
 have e:τ[j]? = some (some t):=by
  cases q:τ[j]? with
  |none=>rw[q] at h;cases h
  |some x=>rw[q] at h;cases x with
   |none=>cases h
   |some y=>cases h;rfl
 obtain⟨v,ev,rv⟩:=sl.tQ j t e;exact⟨v,by rw[ev];rfl,rv⟩
theorem Sl.comp (sl:Sl w τ σ)(fr:List Nat)(T:List Str):Sl w (iN fr T.length τ) (k9 fr T σ):=by
 unfold iN k9;refine⟨by simp,λi t e=>?_⟩
 by_cases hi:i<fr.length
 ·rw[zal (by simpa using hi),zar] at e
  rw[zal (by simpa using hi),zar]
  rw[zag hi] at e ⊢
  have e1:(τ[fr[i]]?).join=some t:=by simpa using e
  obtain⟨v,ev,rv⟩:=UA sl _ e1;exact⟨v,by simp[ev],rv⟩
 ·rw[zau (by simpa using hi)] at e
  rw[zdm] at e;split at e<;>cases e
variable {F T:List Str}{fr:List Nat}{sc:Scope}{yz target dS:Expr}{qL:List Expr}{pos:Pos}{fi:En->Cs->R yM}{bt:Tr->En->Cs->R En}{fc:En->Cs->R Bool}{fe:Em}
inductive acn|val|cel
noncomputable def acn.fP:acn->List Tr->Cs->R Tr|.val,l,S=>.ok (.ls l) S|.cel,l,S=>.ok (.hd S.length) (S++[.bD l])
theorem AI (ce:acn)(hK:X.K=G.K)(h:dU G (λτ S=>(fi τ S).az λs S1=>(cV s.iC bt fc fe s.items (iN fr T.length τ) [] S1).az λl S2=>ce.fP l S2) σ H Q):
  Hr (Uu G fi) fr T (abW G.nx bt) (Ck G.nx fc) (dU G.nx fe) σ H Q:=by
 obtain⟨w,S,τ,hr,sl,q⟩:=h;refine⟨w,S,τ,hr,sl,(aZ.az q).mono λJ H1 yy D hD=>?_⟩
 obtain⟨w1,S1,s,cX,bH,it,_,q1⟩:=yy;have hhD:=bH.Hz hD
 refine⟨λi m BD xs H2=>∃w2 S2 oA bO,w2.hid=bf w1.hid D (.bD xs)/\w2.K=w1.K/\w1.n<=w2.n/\(∀i,i<w1.n->w2.ρ i=w1.ρ i)/\(∀b o,w1.F b=some o->w2.F b=some o)/\HR G w2 S2 H2/\Sl w2 oA BD/\bG w2 bO xs/\i<=s.items.length/\m=s.items.length - i /\
   aZ RT G w1 ((cV s.iC bt fc fe (s.items.drop i) oA bO S2).az λl S3=>ce.fP l S3) Q,?_,?_⟩
 ·refine⟨_,{w1 with hid:=bf w1.hid D (.bD [])},S1,_,[],rfl,rfl,zaf _,λ_ _=>rfl,λ_ _ e=>e,bH.anz hD _ (λ_ z=>by cases z),?_,.nil,zbM _,rfl,q1⟩
  have:=(sl.mono cX).comp fr T
  exact⟨this.len,λi t e=>let ⟨v,ev,rv⟩:=this.tQ i t e;⟨v,ev,RT.bg _ t v rv⟩⟩
 ·rintro i m BD xs H2 ⟨w2,S2,oA,bO,eh,eK,hn,iS,hF,dI,ME,ra,hi,rfl,q2⟩
  have hDx:w2.hid D=some (.bD xs):=by rw[eh];exact aq
  refine⟨dI.hid D _ hDx,?_⟩
  by_cases jD:i<s.items.length
  ·have ed:s.items.drop i=s.items[i]::s.items.drop (i+1):=zdc jD
   rw[ed] at q2;unfold cV at q2;split at q2
   ·rename_i hc
    obtain⟨go,yl⟩:=(it w2 S2 H2 i eK.symm hn iS hF dI hc).1 s.items[i] (zag jD)
    refine .inr ⟨go,λeV ys H'=>∃m',m' < s.items.length - i/\∃w2 S2 oA bO,w2.hid=bf w1.hid D (.bD ys)/\w2.K=w1.K/\w1.n<=w2.n/\(∀i,i<w1.n->w2.ρ i=w1.ρ i)/\(∀b o,w1.F b=some o->w2.F b=some o)/\HR G w2 S2 H'/\Sl w2 oA eV/\bG w2 bO ys/\i+1<=s.items.length/\m'=s.items.length - (i+1) /\
     aZ RT G w1 ((cV s.iC bt fc fe (s.items.drop (i+1)) oA bO S2).az λl S3=>ce.fP l S3) Q,λeV ys H' h=>h,λx H' hy=>?_⟩
    obtain⟨w3,jb,nH,r3⟩:=yl x H' hy;refine⟨w3,S2,oA,_,nH.nx,ME.mono jb,r3,?_⟩
    cases eb:bt s.items[i] oA S2 with
    |ok EE S4 =>
     rw[eb] at q2;intro w4 H4 σ4 NF HA sl4;refine⟨w4,S4,EE,HA,sl4,?_⟩
     have q2:aZ RT G w1 (((jA (fc EE S4)).az λx S2=>if x=true then (jA (fe EE S2)).az λu S3=>(if bO.length<sizeLine then cV s.iC bt fc fe (s.items.drop (i+1)) EE (bO++[u]) S3 else .ay) else cV s.iC bt fc fe (s.items.drop (i+1)) EE bO S2).az λl S3=>ce.fP l S3) Q:=q2
     cases ec:fc EE S4 with
     |ok bb S5 =>
      rw[ec] at q2;have q2:aZ RT G w1 ((if bb=true then (jA (fe EE S5)).az λu S3=>(if bO.length<sizeLine then cV s.iC bt fc fe (s.items.drop (i+1)) EE (bO++[u]) S3 else .ay) else cV s.iC bt fc fe (s.items.drop (i+1)) EE bO S5).az λl S3=>ce.fP l S3) Q:=q2
      intro w5 H5 b' le5 hr5 eb';subst eb';have FJ:=(jb.trans NF).trans le5
      have CD:w5.hid=bf w1.hid D (.bD xs)/\w5.K=w1.K/\w1.n<=w5.n/\(∀i,i<w1.n->w5.ρ i=w1.ρ i)/\(∀b o,w1.F b=some o->w5.F b=some o):=⟨FJ.hid.trans eh,FJ.K.trans eK,zah hn FJ.n,λi hi=>(FJ.r i (zap hi hn)).trans (iS i hi),λb o e=>FJ.F b o (hF b o e)⟩
      cases bb with
      |true =>
       rw[if_pos rfl] at q2;refine B8 ⟨w5,S5,EE,hr5,sl4.mono le5,?_⟩
       cases ef:fe EE S5 with
       |ok u S6 =>
        rw[ef] at q2;have q2:aZ RT G w1 ((if bO.length<sizeLine then cV s.iC bt fc fe (s.items.drop (i+1)) EE (bO++[u]) S6 else .ay).az λl S3=>ce.fP l S3) Q:=q2
        intro w6 H6 v le6 hr6 r6;have FN:=FJ.trans le6;split at q2
        ·rename_i cM
         have ra6:=bG.mono FN _ _ ra;have hD6:w6.hid D=some (.bD xs):=by rw[FN.hid];exact hDx
         have e6:w6.hid=bf w1.hid D (.bD xs):=FN.hid.trans eh
         refine⟨hr6.unx.hid D _ hD6,by rw[ra.len];exact cM,_,by omega,{w6 with hid:=bf w6.hid D (.bD (xs++[v]))},S6,EE,bO++[u],?_,FN.K.trans eK,zah hn FN.n,λi hi=>(FN.r i (zap hi hn)).trans (iS i hi),λb o e=>FN.F b o (hF b o e),hr6.unx.abT hD6 _ (λ_ z=>by cases z),?_,?_,jD,rfl,q2⟩
         ·show bf w6.hid D _=_
          rw[e6,G0]
         ·have:=(sl4.mono le5).mono le6
          exact⟨this.len,λi t e=>let ⟨v,ev,rv⟩:=this.tQ i t e;⟨v,ev,RT.bg _ t v rv⟩⟩
         ·exact bG.bg _ _ _ (ra6.snoc r6)
        ·exact q2.elim
       |ex n S6=>rw[ef] at q2;exact q2.elim
       |ay=>rw[ef] at q2;exact q2.elim
      |false =>
       rw[if_neg zai] at q2;refine B7 ⟨_,by omega,w5,S5,EE,bO,CD.1,CD.2.1,CD.2.2.1,CD.2.2.2.1,CD.2.2.2.2,hr5.unx,sl4.mono le5,bG.mono FJ _ _ ra,jD,rfl,q2⟩
     |ex n S5=>rw[ec] at q2;exact q2.elim
     |ay=>rw[ec] at q2;exact q2.elim
    |ex n S4=>rw[eb] at q2;exact q2.elim
    |ay=>rw[eb] at q2;exact q2.elim
   ·exact q2.elim
  ·have e:i=s.items.length:=by omega
   subst e;rw[List.drop_length] at q2;unfold cV at q2;split at q2
   ·rename_i hc
    refine .inl ⟨(it w2 S2 H2 _ eK.symm hn iS hF dI hc).2 rfl,?_⟩
    have hF2:w2.F D=none:=by rw[dI.F];unfold Fz;rw[if_pos (.inr (by rw[hDx];simp))]
    cases ce with
    |val =>
     have q2:aZ RT G w1 (.ok (.ls bO) S2) Q:=q2
     refine q2 _ _ _ ?_ (dI.aih eh hhD) ?_
     ·exact⟨eK,hn,iS,λb o e=>lg hF2 (hF b o e),rfl⟩
     ·unfold RT
      exact⟨D,xs,rfl,aq,bG.uF (w:=w2) rfl (zaf _) (λ_ _=>rfl) (λb o e=>lg hF2 e) ra⟩
    |cel =>
     have q2:aZ RT G w1 (.ok (.hd S2.length) (S2++[.bD bO])) Q:=q2
     have lu:=({w2 with hid:=w1.hid}:Wd).uq D
     refine q2 _ _ _ ?_ (dI.T6 eh hhD (c:=.bD bO) rfl ⟨xs,dI.hid D _ hDx,?_⟩) ?_
     ·exact⟨eK,zah hn lu.n,λi hi=>(lu.r i (zap hi hn)).trans (iS i hi),λb o e=>hF b o e,rfl⟩
     ·exact bG.mono lu _ _ (bG.bg _ _ _ ra)
     ·unfold RT
      refine⟨by show S2.length<w2.n+1;rw[dI.n];exact zbb _,?_⟩
      show V.ref D=V.ref (if S2.length=w2.n then D else w2.ρ S2.length)
      rw[if_pos dI.n.symm]
   ·exact q2.elim
theorem gf (S:c9 X F T fr sc)(hi:R4 G k X target dS fi)(hg:∀C fp s H xe,Ka G.nx k (pK X (F++T) sc C fp s H xe) target bt)(MV:∀C fp s H xe,FI G.nx k (pK X (F++T) sc C fp s H xe) qL fc)
  (he:∀C fp s H xe,TV G.nx k (pK X (F++T) sc C fp s H xe) yz fe) (hs:∀x,foldedSetIterable dS X.env x=pure x:=by intro _;rfl) (hk:0<k:=by first|decide|omega):TV G k X (.ListComp yz [⟨target,dS,qL,0⟩] sc pos) (fD fi fr T.length bt fc fe):=.mk<|λo =>
 (Hs S (o.d9 hk) (hi o) (λC fp s H xe=>hg C fp s H xe o.comp) (λC fp s H xe=>MV C fp s H xe o.comp) (λC fp s H xe=>he C fp s H xe o.comp) hs).wk λ_ _ _ h=>AI .val o.K h
theorem NZ (S:c9 X F T fr sc)(hi:R4 G k X target dS fi)(hg:∀C fp s H xe,Ka G.nx k (pK X (F++T) sc C fp s H xe) target bt)(MV:∀C fp s H xe,FI G.nx k (pK X (F++T) sc C fp s H xe) qL fc)
  (he:∀C fp s H xe,TV G.nx k (pK X (F++T) sc C fp s H xe) yz fe) (hs:∀x,foldedSetIterable dS X.env x=pure x:=by intro _;rfl) (hk:0<k:=by first|decide|omega):TV G k X (.ListComp yz [⟨target,dS,qL,0⟩] sc pos) (FH fi fr T.length bt fc fe):=.mk<|λo =>
 (Hs S (o.d9 hk) (hi o) (λC fp s H xe=>hg C fp s H xe o.comp) (λC fp s H xe=>MV C fp s H xe o.comp) (λC fp s H xe=>he C fp s H xe o.comp) hs).wk λ_ _ _ h=>AI .cel o.K h
theorem AJ (S:c9 X F T fr sc)(hi:R4 G k X target dS fi)(hg:∀C fp s H xe,Ka G.nx k (pK X (F++T) sc C fp s H xe) target bt)(MV:∀C fp s H xe,FI G.nx k (pK X (F++T) sc C fp s H xe) qL fc)
  (he:∀C fp s H xe,TV G.nx k (pK X (F++T) sc C fp s H xe) yz fe) (hN:X.N.Nodup) (hiy:X.N[i0]? = some y) (hly:X.env.scope.names.lookup y=some .local) (hex:X.ex=[])
  (TR:swapsWith (.ListComp yz [⟨target,dS,qL,0⟩] sc pos) (some (.Name y py)) abG.line X.env=pure true:=by rfl) (hs:∀x,foldedSetIterable dS X.env x=pure x:=by intro _;rfl) (hk:0<k:=by first|decide|omega):
  xJ G k X (.Assign [.Name y py] (.ListComp yz [⟨target,dS,qL,0⟩] sc pos) abG) (br i0 (fD fi fr T.length bt fc fe)):=.mk<|λo =>
 (TQ S (o.d9 hk) (hi o) (λC fp s H xe=>hg C fp s H xe o.comp) (λC fp s H xe=>MV C fp s H xe o.comp) (λC fp s H xe=>he C fp s H xe o.comp) hN hiy hly hex TR hs).wk λD σ H h=>AI .val o.K (NX h)
end
noncomputable abbrev Fn:=List Tr->Cs->R Tr
noncomputable def dW (K:W.Frag)(cl:Str->Addr)(n:Nat)(q:Fn):Sp:=λvs H Q E=>∃w S ts,HR ⟨K,cl,E⟩ w S H/\bG w ts vs/\ts.length=n/\aZ RT ⟨K,cl,E⟩ w (q ts S) Q
def dR (n:Nat)(q:Fn)(fr:En->Cs->R (List Tr)):Em:=λτ S=>(fr τ S).az λts S1=>if ts.length=n then q ts S1 else .ay
section
variable {G:Gx}{k j n:Nat}{X:Cx}{CX:BV}{f C:Addr}{fd:FuncData}{ps:List Str}{q:Fn}{x m:Str}{p pos eX gA:Pos}{e o:Expr}{es:List Expr}{fr:En->Cs->R (List Tr)}{fo:Em}
theorem aiF (h:dU G (dR n q fr) σ H Q):WM (dW G.K G.cl n q) [] G.E (Ft G fr) σ H Q:=by
 obtain⟨w,S,τ,hr,sl,qq⟩:=h;refine⟨w,S,τ,hr,sl,(aZ.az qq).mono λvs H1 bU=>?_⟩
 obtain⟨w1,S1,ts,cX,bH,r1,_,q1⟩:=bU;split at q1
 ·rename_i hn
  rw[zax];exact⟨w1,S1,ts,bH,r1,hn,q1⟩
 ·exact q1.elim
theorem AK (F:aP X.prog X.w X.K X.mg X.base CX j f fd ps (dW G.K G.cl n q))(hj:j<=k)(hm:X.mg x=some (.ref f))(hk:W.keepIn X.K (.ref f)=true)(hb:eW X.K fd ps [])(hx:gC CX X G.E)(ha:xH G k X (e::es) fr)
  (hg:Gl X x:=by rfl) (tU:(x == ("__debug__":Str))=false:=by decide) (he:dH e=false:=by rfl) (hpl:dD es=true:=by rfl) (EF:0<k:=by first|decide|omega):
  TV G k X (.Call (.Name x p) (e::es) [] pos) (dR n q fr):=.mk<|λox=>(SH F ((ox.room EF).mono hj) hg hm hk hb .nil hx (ha ox) tU (cU he) (f6 hpl)).wk λ_ _ _ h=>aiF h
def aO (c m:Str)(n:Nat)(q:Fn)(fo:Em)(fr:En->Cs->R (List Tr)):Em:=λτ S=>(fo τ S).az λt S1=>match t with
 |.hd i=>(match iT S1 i with
  |some (c',fs)=>if c'=c/\(aN m fs).isNone=true then (fr τ S1).az λts S2=>(if (t::ts).length=n then q (t::ts) S2 else .ay) else .ay
  |none=>.ay)
 |_=>.ay
theorem HK (h:dU G (aO c m n q fo fr) σ H Q):Hf (G.cl c) m (dW G.K G.cl n q) [] G.E (dU G fo) (Ft G fr) σ H Q:=by
 obtain⟨w,S,τ,hr,sl,qq⟩:=h;refine⟨w,S,τ,hr,sl,(aZ.az qq).mono λv H1 dh=>?_⟩
 obtain⟨w1,S1,t,cX,bH,r1,_,q1⟩:=dh;split at q1
 ·split at q1
  ·rename_i c' fs ei
   split at q1
   ·rename_i hc
    obtain⟨rfl,hm⟩:=hc;obtain⟨dx,xF,h1,h2⟩:=bH.cell _ _ (fL ei)
    refine⟨_,dx,xF,r1.cQ.2,h1,(iA (k:=m) h2).2 (zeh.mp hm),w1,S1,τ,bH,sl.mono cX,(aZ.az q1).mono λvs H2 eZ=>?_⟩
    obtain⟨w2,S2,ts,fj,dI,r2,_,q2⟩:=eZ;split at q2
    ·rename_i hn
     rw[zax];exact⟨w2,S2,_,dI,.cons (RT.mono fj _ _ r1) r2,hn,q2⟩
    ·exact q2.elim
   ·exact q1.elim
  ·exact q1.elim
 ·exact q1.elim
theorem bM (hc:wZ G.K (G.cl c))(hM:dJ G.K (G.cl c) m f)(F:aP X.prog X.w X.K X.mg X.base CX j f fd ps (dW G.K G.cl n q))(hj:j<=k)(hb:eW X.K fd ps [])(hx:gC CX X G.E)(ho:TV G k X o fo)(ha:xH G k X (e::es) fr)
  (om:dH e=false:=by rfl) (hpl:dD es=true:=by rfl)
  (ht:eval (.Call (.Attribute o m eX) (e::es) [] pos) X.env=(do
   let ov <-eval o X.env
   standAt eX.atName
   let (f,first) <-holding [ov] (getMethod ov m pl)
   callWith pos f first (backTo pos (starEach (e::es) X.env)) (backToKw pos (keywordEach [] X.env))):=by rfl) (EF:0<k:=by first|decide|omega):TV G k X (.Call (.Attribute o m eX) (e::es) [] pos) (aO c m n q fo fr):=.mk<|λox =>
 (SI (ho ox) (by rw[ox.K];exact hc) (by rw[ox.K];exact hM) F ((ox.room EF).mono hj) hb .nil hx (ha ox) (cU om) (f6 hpl) ht).wk λ_ _ _ h=>HK h
theorem aR (hc:wZ G.K (G.cl c))(hM:dJ G.K (G.cl c) m f)(F:aP X.prog X.w X.K X.mg X.base CX j f fd ps (dW G.K G.cl n q))(hj:j<=k)(hb:eW X.K fd ps [])(hx:gC CX X G.E)(ho:TV G k X o fo)
  (ht:eval (.Call (.Attribute o m eX) [] [] pos) X.env=(do
   let ov <-eval o X.env
   standAt eX.atName
   let (f,first) <-holding [ov] (getMethod ov m pl)
   callWith pos f first (backTo pos (starEach [] X.env)) (backToKw pos (keywordEach [] X.env))):=by rfl) (EF:0<k:=by first|decide|omega):TV G k X (.Call (.Attribute o m eX) [] [] pos) (aO c m n q fo ak):=.mk<|λox =>
 (Mq (ho ox) (by rw[ox.K];exact hc) (by rw[ox.K];exact hM) F ((ox.room EF).mono hj) hb .nil hx ht).wk λσ H Q h=>by
  obtain⟨w,S,τ,hr,sl,qq⟩:=HK h;refine⟨w,S,τ,hr,sl,qq.mono λv H1 yy=>?_⟩
  obtain⟨a,dx,fs,e1,h1,hl,⟨w1,S1,fq,bH,Cc,q1⟩⟩:=yy;refine⟨a,dx,fs,e1,h1,hl,?_⟩;exact q1 w1 H1 [] (.refl _) bH .nil
def yO (c:Str)(n:Nat)(q:Fn)(fr:En->Cs->R (List Tr)):Em:=λτ S=>(fr τ S).az λts S1=>if ts.length+1=n then (q (.hd S1.length::ts) (S1++[.fH c []])).az λr S2=>(match r with|.bq=>.ok (.hd S1.length) S2|_=>.ay) else .ay
theorem UB (h:dU G (yO c n q fr) σ H Q):WN (G.cl c) (dW G.K G.cl n q) [] G.E (Ft G fr) σ H Q:=by
 obtain⟨w,S,τ,hr,sl,qq⟩:=h;refine⟨w,S,τ,hr,sl,(aZ.az qq).mono λvs H1 yy x dx hx hdx ne=>?_⟩
 obtain⟨w1,S1,ts,cX,bH,r1,_,q1⟩:=yy;split at q1
 ·rename_i hn
  obtain⟨h2,fj⟩:=bH.W2 hdx (.tF x)
  have hx2:bf H1 dx (.tF x) x=none:=by rw[av (zbe ne)];exact hx
  obtain⟨h3,jb⟩:=h2.Fq hx2 (o:=.fH (G.cl c) dx []) (c:=.fH c []) rfl ⟨dx,[],aq,.nil⟩
  have iS:(({w1 with F:=bf w1.F dx (.tF x)}:Wd).up x).ρ S1.length=x:=by
   show (if S1.length=w1.n then x else w1.ρ S1.length)=x
   rw[if_pos bH.n.symm]
  rw[zax];refine⟨_,_,.hd S1.length::ts,h3,.cons ?_ (bG.mono (fj.trans jb) _ _ r1),by simpa using hn,(aZ.az (aZ.wd (fj.trans jb) q1)).mono λv H4 yy=>?_⟩
  ·unfold RT
   exact⟨by show S1.length<w1.n+1;rw[bH.n];exact zbb _,by rw[iS]⟩
  ·obtain⟨w4,S4,t4,NF,HA,r4,_,q4⟩:=yy;split at q4
   ·refine⟨jk r4,q4 w4 H4 _ (.refl _) HA ?_⟩
    have jD:S1.length<(({w1 with F:=bf w1.F dx (.tF x)}:Wd).up x).n:=by show S1.length<w1.n+1;rw[bH.n];exact zbb _
    unfold RT;exact⟨zap jD NF.n,by rw[NF.r _ jD,iS]⟩
   ·exact q4.elim
 ·exact q1.elim
theorem HL (M:Mk G.K (G.cl c) f)(F:aP X.prog X.w X.K X.mg X.base CX j f fd ps (dW G.K G.cl n q))(hj:j+1<=k)(hm:X.mg x=some (.ref (G.cl c)))(hb:eW X.K fd ps [])(hx:gC CX X G.E)(ha:xH G k X (e::es) fr)
  (hg:Gl X x:=by rfl) (tU:(x == ("__debug__":Str))=false:=by decide) (he:dH e=false:=by rfl) (hpl:dD es=true:=by rfl) (EF:0<k:=by first|decide|omega):
  TV G k X (.Call (.Name x p) (e::es) [] pos) (yO c n q fr):=.mk<|λox=>(SJ (by rw[ox.K];exact M) F ((ox.room EF).mono hj) hg hm hb .nil hx (ha ox) tU (cU he) (f6 hpl)).wk λ_ _ _ h=>UB h
noncomputable def gG (N:List Str)(ts:List Tr):En:=ts.map some++List.replicate (N.length - ts.length) none
def dM (N:List Str)(sb:Sm):Fn:=λts S=>match sb (gG N ts) S with|.nx _ S'=>.ok .bq S' | .rt t S'=>.ok t S' | _=>.ay
theorem Sl.cW (N:List Str)(r:bG w ts vs):Sl w (gG N ts) (cW N vs):=by
 unfold gG L2.cW;refine⟨by simp[r.len],λi t e=>?_⟩
 by_cases hi:i<ts.length
 ·rw[zal (by simpa using hi),zar] at e
  rw[zal (by rw[zad,r.len];exact hi),zar]
  cases et:ts[i]? with
  |none=>rw[et] at e;cases e
  |some u =>
   rw[et] at e;cases e;obtain⟨v,ev,rv⟩:=r.get et;exact⟨v,by rw[ev];rfl,rv⟩
 ·rw[zau (by simpa using hi)] at e
  rw[zdm] at e;split at e<;>cases e
variable {P:Program}{w:World}{K:W.Frag}{mg:Str->Option Value}{base:Heap}{cl:Str->Addr}{N:List Str}{bY:Str}{st:Stmt}{sb:Sm}
theorem aU (F:LJ K x bY st f fd)(Sc:au N ps (aj st))
  (hb:∀fG A outer s H E,J_ ⟨K,cl,E0⟩ k (jC eO P w K mg base N bY (aj st) f fG A outer s H E).Et (cT st) sb):aP P w K mg base eO (k+1) f fd ps (dW K cl ps.length (dM N sb)):=by
 refine F.ok Sc (λvs H Q E gD=>by obtain⟨w,S,ts,hr,r,hn,_⟩:=gD;rw[r.len,hn]) λfG A outer s H vs Q E hr kC=>?_
 obtain⟨w,S,ts,R5,r,hn,q⟩:=kC;refine⟨_,hb fG A outer s H E ⟨rfl,λ_=>rfl,λ_=>hr,zdi (Nat.add_le_add_right (zbw _ _) 200) hr.un⟩,w,S,gG N ts,⟨R5.K,R5.n,R5.F,λi c e=>R5.nx.cell i c e,R5.inj,R5.hid,R5.ku,R5.hl⟩,Sl.cW N r,?_⟩
 have conv:∀{w' S' H'},HR (⟨K,cl,E0⟩:Gx) w' S' H'->HR ⟨K,cl,E⟩ w' S' H':=λh=>HR.unx (G:=⟨K,cl,E⟩) h
 unfold dM at q;cases e:sb (gG N ts) S with
 |nx qY S'=>rw[e] at q;exact λw' H' eV le xO sl'=>q w' H' _ le (conv xO) qO
 |rt t S'=>rw[e] at q;exact λw' H' v le xO rv=>q w' H' v le (conv xO) rv
 |bk qY S'=>rw[e] at q;exact q.elim
 |ct qY S'=>rw[e] at q;exact q.elim
 |ex qY S'=>rw[e] at q;exact q.elim
 |ay=>rw[e] at q;exact q.elim
mutual
noncomputable def Tr.az (m:Nat):Tr->Bool
 |.tp l=>Tr.jX m l
 |.ls l=>Tr.jX m l
 |.kt l=>Tr.jX m l
 |.kl l=>Tr.jX m l
 |.hd n=>decide (n<m)
 |_=>true
noncomputable def Tr.jX (m:Nat):List Tr->Bool
 |[]=>true
 |t::l=>Tr.az m t && Tr.jX m l
end
mutual
theorem RT.az {w:Wd}:∀(t:Tr) (v:V),RT w t v->t.az w.n=true
 |.tp l,v,r=>by unfold RT at r;unfold Tr.az;obtain⟨_,xs,_,_,r⟩:=r;exact bG.az l xs r
 |.ls l,v,r=>by unfold RT at r;unfold Tr.az;obtain⟨_,xs,_,_,r⟩:=r;exact bG.az l xs r
 |.kt l,v,r=>by unfold RT at r;unfold Tr.az;obtain⟨_,xs,_,_,r⟩:=r;exact bG.az l xs r
 |.kl l,v,r=>by unfold RT at r;unfold Tr.az;obtain⟨_,xs,_,_,r⟩:=r;exact bG.az l xs r
 |.hd n,v,r=>by unfold Tr.az;exact decide_eq_true r.cQ.1
 |.bq,v,r=>by unfold Tr.az;rfl
 |.bl _,v,r=>by unfold Tr.az;rfl
 |.int _,v,r=>by unfold Tr.az;rfl
 |.str _,v,r=>by unfold Tr.az;rfl
theorem bG.az {w:Wd}:∀(l:List Tr) (xs:List V),bG w l xs->Tr.jX w.n l=true
 |[],xs,r=>by unfold Tr.jX;rfl
 |t::l,xs,r=>by
  obtain⟨x,r',rfl,h1,h2⟩:=r.bA;unfold Tr.jX;rw[RT.az t x h1,bG.az l r' h2];rfl
end
mutual
theorem RT.nZ {w:Wd}{m:Nat}(hF:∀b o,w.F b=some o->F' b=some o):∀(t:Tr) (v:V),RT w t v->t.az m=true->RT {w with n:=m,F:=F' } t v
 |.tp l,v,r,h=>by unfold RT at r ⊢;unfold Tr.az at h;obtain⟨a,xs,e,s,r⟩:=r;exact⟨a,xs,e,hF _ _ s,bG.nZ hF l xs r h⟩
 |.ls l,v,r,h=>by unfold RT at r ⊢;unfold Tr.az at h;obtain⟨a,xs,e,s,r⟩:=r;exact⟨a,xs,e,hF _ _ s,bG.nZ hF l xs r h⟩
 |.kt l,v,r,h=>by unfold RT at r ⊢;unfold Tr.az at h;obtain⟨a,xs,e,s,r⟩:=r;exact⟨a,xs,e,s.mono hF,bG.nZ hF l xs r h⟩
 |.kl l,v,r,h=>by unfold RT at r ⊢;unfold Tr.az at h;obtain⟨a,xs,e,s,r⟩:=r;exact⟨a,xs,e,s.mono hF,bG.nZ hF l xs r h⟩
 |.hd n,v,r,h=>by unfold RT;unfold Tr.az at h;exact⟨of_decide_eq_true h,r.cQ.2⟩
 |.bq,v,r,h=>by unfold RT at r ⊢;exact r
 |.bl _,v,r,h=>by unfold RT at r ⊢;exact r
 |.int _,v,r,h=>by unfold RT at r ⊢;exact r
 |.str _,v,r,h=>by unfold RT at r ⊢;exact r
theorem bG.nZ {w:Wd}{m:Nat}(hF:∀b o,w.F b=some o->F' b=some o):∀(l:List Tr) (xs:List V),bG w l xs->Tr.jX m l=true->bG {w with n:=m,F:=F' } l xs
 |[],xs,r,h=>by rw[r.b_];exact .nil
 |t::l,xs,r,h=>by
  obtain⟨x,r',rfl,h1,h2⟩:=r.bA;unfold Tr.jX at h;have h:=zbC.mp h;exact .cons (RT.nZ hF t x h1 h.1) (bG.nZ hF l r' h2 h.2)
end
def aiG (m:Nat):Ce->Bool
 |.uo=>true
 |.bD l=>Tr.jX m l
 |.iy l=>Tr.jX m (l.map Prod.snd)
 |.fH _ l=>Tr.jX m (l.map Prod.snd)
 |.xD _ l=>Tr.jX m (l.map Prod.snd)
 |.nW l=>Tr.jX m (l.map Prod.snd)
 |.xE l=>Tr.jX m (l.map Prod.snd)
 |.rO l=>Tr.jX m (l.map Prod.snd)
theorem bz.az {w:Wd}(h:bz G w H a c):aiG w.n c=true:=by
 cases c with
 |uo=>rfl
 |bD l=>obtain⟨xs,_,r⟩:=h;exact bG.az _ _ r
 |iy l=>obtain⟨xs,_,r⟩:=h;exact bG.az _ _ r.2
 |fH c l=>obtain⟨_,xs,_,r⟩:=h;exact bG.az _ _ r.2
 |xD c l=>obtain⟨_,_,xs,_,_,_,_,_,r⟩:=h;exact bG.az _ _ r.2
 |nW l=>obtain⟨xs,_,r⟩:=h;exact bG.az _ _ r.2
 |xE l=>obtain⟨_,xs,_,r⟩:=h;exact bG.az _ _ r.2
 |rO l=>obtain⟨_,xs,_,r⟩:=h;exact bG.az _ _ r.2
theorem bz.cut {w:Wd}{m:Nat}(hF:∀b o,w.F b=Option.some o->F' b=Option.some o)(h:bz G w H a c)(hb:aiG m c=true):bz G {w with n:=m,F:=F' } H a c:=by
 cases c with
 |uo=>trivial
 |bD l=>obtain⟨xs,e,r⟩:=h;exact⟨xs,e,bG.nZ hF _ _ r hb⟩
 |iy l=>obtain⟨xs,e,r⟩:=h;exact⟨xs,e,r.1,bG.nZ hF _ _ r.2 hb⟩
 |fH c l=>obtain⟨dx,xs,e,r⟩:=h;exact⟨dx,xs,e,r.1,bG.nZ hF _ _ r.2 hb⟩
 |xD c l=>obtain⟨T,d,xs,e,e2,e3,n1,n2,r⟩:=h;exact⟨T,d,xs,e,hF _ _ e2,hF _ _ e3,n1,n2,r.1,bG.nZ hF _ _ r.2 hb⟩
 |nW l=>obtain⟨xs,e,r⟩:=h;exact⟨xs,e,r.1,bG.nZ hF _ _ r.2 hb⟩
 |xE l=>obtain⟨o,xs,e,r⟩:=h;exact⟨o,xs,hF _ _ e,r.1,bG.nZ hF _ _ r.2 hb⟩
 |rO l=>obtain⟨o,xs,e,r⟩:=h;exact⟨o,xs,hF _ _ e,r.1,bG.nZ hF _ _ r.2 hb⟩
def CF (m:Nat)(S:Cs)(t:Tr):Option Tr:=match t with
 |.hd n=>if n<m then some (.hd n) else (match cK S n with|some l=>if Tr.jX m l=true then some (.ls l) else none|none=>none)
 |t=>if t.az m=true then some t else none
open Classical in
def rS (q:Fn):Fn:=λts S=>match q ts S with
 |.ok t S1=>if S1.take S.length=S then (match CF S.length S1 t with|some u=>.ok u S|none=>.ay) else .ay
 |.ex n S1=>.ex n S1
 |.ay=>.ay
open Classical in
theorem UC {H:Hp}(h:dW K cl n (rS q) vs H Q E):dW K cl n q vs H Q E:=by
 obtain⟨w,S,ts,hr,r,hn,qq⟩:=h;refine⟨w,S,ts,hr,r,hn,?_⟩
 unfold rS at qq;cases e:q ts S with
 |ex m S1=>rw[e] at qq;exact qq
 |ay=>rw[e] at qq;exact qq
 |ok t S1 =>
  rw[e] at qq;have qq:aZ RT ⟨K,cl,E⟩ w (if S1.take S.length=S then (match CF S.length S1 t with|some u=>.ok u S|none=>.ay) else .ay) Q:=qq
  split at qq
  ·rename_i hS
   split at qq
   ·rename_i u eu
    intro w1 H1 v cX bH rv;have hm:S.length<=S1.length:=by
     have:=congrArg List.length hS
     rw[zaU] at this;omega
    have hF:∀b o,w1.F b=some o->Fz w1.ρ w1.hid (S1.take S.length) H1 b=some o:=λb o e=>abV b o (by rw[<-bH.F];exact e)
    have dI:=bH.cut hm λi c ec=>by
     have hi:=(zae.mp ec).1
     rw[zaU] at hi;have ec1:S1[i]? = some c:=by rw[zbN (by omega)] at ec;exact ec
     rw[hS] at ec;have hb:=(hr.cell i c ec).az
     rw[hr.n] at hb;exact (bH.cell i c ec1).cut hF hb
    have fj:w.le {w1 with n:=S.length,F:=Fz w1.ρ w1.hid (S1.take S.length) H1}:=⟨cX.K,by show w.n<=S.length;rw[hr.n];exact zaf _,cX.r,λb o e=>hF b o (cX.F b o e),cX.hid⟩
    rw[hS] at dI fj hF;refine qq _ _ _ fj dI ?_
    unfold CF at eu;split at eu
    ·rename_i n
     split at eu
     ·cases eu
      rename_i jD;unfold RT;exact⟨jD,rv.cQ.2⟩
     ·rename_i hge
      split at eu
      ·rename_i l el
       split at eu
       ·rename_i hb
        cases eu;obtain⟨xs,h1,h2⟩:=bH.cell _ _ (cG el)
        have lv:e_ S1 n:=⟨_,cG el,rfl⟩
        unfold RT;refine⟨_,xs,rv.cQ.2,?_,bG.nZ hF _ _ h2 hb⟩
        show Fz w1.ρ w1.hid S H1 (w1.ρ n)=_
        unfold Fz;rw[if_neg,h1];rintro (⟨i,li,ei⟩|z)
        ·have li1:e_ S1 i:=by
          obtain⟨c,ec,nc⟩:=li;have hi:=(zae.mp ec).1
          rw[<-hS,zbN (by omega)] at ec
          exact⟨c,ec,nc⟩
         have:=bH.inj i n li1 lv ei
         subst this;exact hge li.lt
        ·exact z (bH.ku n lv)
       ·cases eu
      ·cases eu
    ·split at eu
     ·cases eu
      exact RT.nZ hF _ _ rv (by assumption)
     ·cases eu
   ·exact qq.elim
  ·exact qq.elim
theorem aP.pure (F:aP P w K mg base CX j f fd ps (dW K cl n q)):aP P w K mg base CX j f fd ps (dW K cl n (rS q)):=F.imp λ_ _ _ _ h=>UC h
end
section
variable {G:Gx}{k:Nat}{X:Cx}{a b c o e kx vx:Expr}{es:List Expr}{ks:List (Option Expr)}{vs:List Expr}{fo fe ff fk fv:Em}{pos eX gA:Pos}
noncomputable def FO:Em:=λ_ S=>.ok (.hd S.length) (S++[.iy []])
theorem N1:TV G k X (.Dict [] [] pos) FO:=.mk<|λ_=>Mz.wk λσ H Q h=>by
 obtain⟨w,S,τ,hr,sl,q⟩:=h;intro p hp;obtain⟨h2,le⟩:=hr.Fq (c:=.iy []) hp (o:=.dK []) rfl ⟨[],aq,.nil⟩
 refine q _ _ _ le h2 ?_
 unfold RT;exact⟨by show S.length<w.n+1;rw[hr.n];exact zbb _,by show V.ref p=V.ref (if S.length=w.n then p else w.ρ S.length);rw[if_pos hr.n.symm]⟩
def Kf:List (Em×Em)->En->Cs->R (List (dF×Tr))
 |[],_,S=>.ok [] S
 | (fk,fv)::r,τ,S=>(fk τ S).az λt S1=>(fv τ S1).az λu S2=>(Kf r τ S2).az λl S3=>match iz t with|some j=>.ok ((j,u)::l) S3|none=>.ay
def HM (ps:List (Em×Em)):Em:=λτ S=>(Kf ps τ (S++[.iy []])).az λl S1=>match pR S1 S.length with
 |some []=>if l.length<=15 then .ok (.hd S.length) (S1.set S.length (.iy (fm [] l))) else .ay
 |_=>.ay
noncomputable def N2 (G:Gx)(ps:List (Em×Em)):List (TE×TE):=ps.map λp=>(dU G p.1,dU G p.2)
structure TVP (G:Gx) (k:Nat) (X:Cx) (pos:Pos) (ks:List (Option Expr)) (vs:List Expr) (ps:List (Em×Em)):Prop where
 kY:jU G k X->PPs X pos ks vs (N2 G ps)
instance {G:Gx}{k:Nat}{X:Cx}{pos:Pos}{ks:List (Option Expr)}{vs:List Expr}{ps:List (Em×Em)}:CoeFun (TVP G k X pos ks vs ps) (λ_=>jU G k X->PPs X pos ks vs (N2 G ps)):=⟨TVP.kY⟩
theorem N3:TVP G k X pos [] [] []:=.mk<|λ_=>SR
theorem HN (hk:TV G k X kx fk)(hv:TV G k X vx fv)(hr:TVP G k X pos ks vs ps):TVP G k X pos (some kx::ks) (vx::vs) ((fk,fv)::ps):=.mk<|λo=>MB (hk o) (hv o) (hr o)
theorem N4:∀(ps:List (Em×Em)) {w:Wd} {S:Cs} {τ:En} {σ:St} {H:Hp} {Q:List (V×V)->Hp->Prop},HR G w S H->Sl w τ σ ->
  aZ (λw (l:List (dF×Tr)) (m:List (V×V))=>∃aI,m=aI.map (λkv=>(kV kv.1,kv.2))/\RK w l aI) G w (Kf ps τ S) Q->Ac (N2 G ps) σ H Q
 |[],w,S,τ,σ,H,Q,hr,sl,q=>q w H [] (.refl w) hr ⟨[],rfl,.nil⟩
 | (fk,fv)::r,w,S,τ,σ,H,Q,hr,sl,q=>by
  refine⟨w,S,τ,hr,sl,(aZ.az q).mono λx H1 bU=>?_⟩
  obtain⟨w1,S1,t,cX,bH,r1,_,q1⟩:=bU;refine⟨w1,S1,τ,bH,sl.mono cX,(aZ.az q1).mono λy H2 dh=>?_⟩
  obtain⟨w2,S2,u,fj,dI,r2,_,q2⟩:=dh;refine N4 r dI ((sl.mono cX).mono fj) ((aZ.az q2).mono λm H3 eZ=>?_)
  obtain⟨w3,S3,l,jb,nH,⟨aI,em,rk⟩,_,q3⟩:=eZ
  split at q3
  ·rename_i j ej
   refine q3 w3 H3 _ (.refl _) nH ⟨(j,y)::aI,?_,.cons (RT.mono jb _ _ r2) rk⟩
   rw[em,zat,f7 ej r1]
  ·exact q3.elim
theorem HP (h:TVP G k X pos ks vs ps)(MC:ks.all (·.isSome)=true:=by rfl)(hl:ks.length=vs.length:=by rfl)(h0:ks≠[]:=by simp)(h15:ks.length<=15:=by decide):TV G k X (.Dict ks vs pos) (HM ps):=.mk<|λox=>(SS (h ox) MC hl h0 h15).wk λσ H Q h=>by
 obtain⟨w,S,τ,hr,sl,q⟩:=h;intro p hp;obtain⟨h2,le⟩:=hr.Fq (c:=.iy []) hp (o:=.dK []) rfl ⟨[],aq,.nil⟩
 have jD:S.length<(w.up p).n:=by show S.length<w.n+1;rw[hr.n];exact zbb _
 have iS:(w.up p).ρ S.length=p:=by show (if S.length=w.n then p else w.ρ S.length)=p;rw[if_pos hr.n.symm]
 refine N4 ps h2 (sl.mono le) ((aZ.az (aZ.wd le q)).mono λm H2 mS=>?_)
 obtain⟨w2,S2,l,fj,dI,⟨aI,em,rk⟩,_,q2⟩:=mS
 split at q2
 ·rename_i ed
  split at q2
  ·rename_i h15
   obtain⟨asw,h3,h4⟩:=dI.cell _ _ (gZ ed)
   have aco:w2.ρ S.length=p:=(fj.r _ jD).trans iS
   rw[aco,h4.b_] at h3;refine⟨h3,aI,em,by rw[rk.len];exact h15,?_⟩
   have h5:HR G w2 (S2.set S.length (.iy (fm [] l))) (bf H2 (w2.ρ S.length) (.dK (gq [] aI))):=dI.put (gZ ed) rfl rfl ⟨_,aq,RK.B3 rk .nil⟩
   rw[aco] at h5;refine q2 w2 _ _ (.refl _) h5 ?_
   unfold RT;exact⟨zap jD fj.n,by rw[aco]⟩
  ·exact q2.elim
 ·exact q2.elim
def HQ (fo fe ff:Em):Em:=λτ S=>(fo τ S).az λt S1=>if ckD S1 t=true then (fe τ S1).az λj S2=>(ff τ S2).az λu S3=>(match LN S3 t,iz j with|some m,some q=>.ok ((aN q m).getD u) S3|_,_=>.ay) else .ay
theorem acp (hr:HR G w S H)(r:RT w t v)(h:ckD S t=true):∃n,t = .hd n/\v = .ref (w.ρ n)/\IsD H (w.ρ n):=by
 unfold ckD at h;obtain⟨m,em⟩:=zcq.mp h;obtain⟨n,aI,e1,_,e2,h1,_⟩:=uA hr r em;exact⟨n,e1,e2,.inl ⟨aI,.inl h1⟩⟩
theorem Kg {j:dF}(R:RK w m aI)(ru:RT w u z):RT w ((aN j m).getD u) ((mE aI j).getD z):=by
 obtain⟨h1,h2⟩:=mX (k:=j) R
 cases e:aN j m with
 |none=>rw[h2 e];exact ru
 |some t=>obtain⟨v,ev,rv⟩:=h1 t e;rw[ev];exact rv
theorem HS (ho:TV G k X o fo)(he:TV G k X e fe)(hf:TV G k X c ff)(m:M2 X o "get" eX e c gA:=by exact⟨rfl,rfl,rfl,rfl⟩):TV G k X (.Call (.Attribute o "get" eX) [e,c] [] gA) (HQ fo fe ff):=.mk<|λox=>(MD ox.W4 (ho ox) (he ox) (hf ox) m).wk λσ H Q h=>by
 obtain⟨w,S,τ,hr,sl,q⟩:=h;refine⟨w,S,τ,hr,sl,(aZ.az q).mono λx H1 jg=>?_⟩
 obtain⟨w1,S1,t,cX,bH,r1,_,q1⟩:=jg;split at q1
 ·rename_i hck
  obtain⟨n,rfl,e2,hd⟩:=acp bH r1 hck;refine⟨_,e2,hd,w1,S1,τ,bH,sl.mono cX,(aZ.az q1).mono λy H2 ki=>?_⟩
  obtain⟨w2,S2,j,fj,dI,r2,_,q2⟩:=ki;refine⟨w2,S2,τ,dI,(sl.mono cX).mono fj,(aZ.az q2).mono λz H3 gD=>?_⟩
  obtain⟨w3,S3,u,jb,nH,r3,_,q3⟩:=gD;split at q3
  ·rename_i mm qk em ek
   obtain⟨n',aI,e4,_,_,h4,R⟩:=uA nH (RT.mono (fj.trans jb) _ _ r1) em
   cases e4;rw[(fj.trans jb).r _ r1.cQ.1] at h4;refine⟨mE aI qk,by rw[f7 ek (RT.mono jb _ _ r2)];exact mP.k h4,q3 w3 H3 _ (.refl _) nH (Kg R r3)⟩
  ·exact q3.elim
 ·exact q1.elim
def acq (f:Em):Em:=λτ S=>(f τ S).az λt S1=>match t with
 |.str x=>if x.length<=sizeLine then .ok (.str x) S1 else .ay
 |.int i=>if i.natAbs.log2<1920 then .ok (.str (toString i)) S1 else .ay
 |_=>.ay
theorem acr (h:TV G k X a fo):TV G k X (.FormattedValue a (-1) none pos) (acq fo):=.mk<|λox=>(abz (h ox)).wk λσ H Q h=>by
 obtain⟨w,S,τ,hr,sl,q⟩:=h;refine⟨w,S,τ,hr,sl,(aZ.az q).mono λx H1 pQ=>?_⟩
 obtain⟨w1,S1,t,cX,bH,r1,_,q1⟩:=pQ;split at q1
 ·split at q1
  ·exact .inl ⟨_,b9 r1,by assumption,q1 w1 H1 _ (.refl _) bH lq⟩
  ·exact q1.elim
 ·split at q1
  ·exact .inr ⟨_,aK r1,by assumption,q1 w1 H1 _ (.refl _) bH lq⟩
  ·exact q1.elim
 ·exact q1.elim
def fJ:List Em->Str->Em
 |[],bO,_,S=>if bO.length<=sizeLine then .ok (.str bO) S else .ay
 |f::r,bO,τ,S=>(f τ S).az λt S1=>match t with|.str y=>if (bO++y).length<=sizeLine then fJ r (bO++y) τ S1 else .ay|_=>.ay
structure TVJ (G:Gx) (k:Nat) (X:Cx) (es:List Expr) (fs:List Em):Prop where
 kY:jU G k X->PJ X es (λbO=>dU G (fJ fs bO))
instance {G:Gx}{k:Nat}{X:Cx}{es:List Expr}{fs:List Em}:CoeFun (TVJ G k X es fs) (λ_=>jU G k X->PJ X es (λbO=>dU G (fJ fs bO))):=⟨TVJ.kY⟩
theorem acs:TVJ G k X [] []:=.mk<|λ_ bO ah s σ H Q I ⟨w,S,τ,hr,sl,q⟩=>abC bO ah s σ H Q I (by
 unfold fJ at q;split at q
 ·exact⟨by assumption,q w H _ (.refl w) hr lq⟩
 ·exact q.elim)
theorem UD (h1:TV G k X e f)(h2:TVJ G k X es fs):TVJ G k X (e::es) (f::fs):=.mk<|λox bO ah s σ H Q I ⟨w,S,τ,hr,sl,q⟩=>TH (h1 ox) (h2 ox) bO ah s σ H Q I ⟨w,S,τ,hr,sl,(aZ.az q).mono λx H1 lA=>by
 obtain⟨w1,S1,t,cX,bH,r1,_,q1⟩:=lA;split at q1
 ·split at q1
  ·exact⟨_,b9 r1,by assumption,w1,S1,τ,bH,sl.mono cX,q1⟩
  ·exact q1.elim
 ·exact q1.elim⟩
theorem UE (h:TVJ G k X (a::b::es) fs):TV G k X (.JoinedStr (a::b::es) pos) (fJ fs Str.empty):=.mk<|λox=>TL (h ox)
end
structure oF (K:W.Frag) (mg:Str->Option Value) (x:Str) (st:Stmt) (ps:List Str) (f:Addr) (fd:FuncData):Prop where
 F:LJ K x x st f fd
 m:mg x=some (.ref f)
 b:eW K fd ps []
structure mj (K:W.Frag) (C:Addr) (x bY:Str) (st:Stmt) (ps:List Str) (f:Addr) (fd:FuncData):Prop where
 F:LJ K x bY st f fd
 M:dJ K C x f
 b:eW K fd ps []
structure Xb (K:W.Frag) (mg:Str->Option Value) (x:Str) (C f:Addr):Prop where
 m:mg x=some (.ref C)
 c:wZ K C
 k:Mk K C f
theorem anE {K:W.Frag}{st:Stmt}(F:LJ K x bY st f fd)(Sc:au N ps (aj st)):aP P w K mg base CX j f fd ps (dW K cl n λ_ _=>.ay):=
 ⟨λ_ _ _ _ oQ=>by obtain⟨_,_,_,_,_,_,q⟩:=oQ;exact q.elim,λ_ _ _ _ _ _ _ _ _ _ _ _ _ oR=>by obtain⟨_,_,_,_,_,_,q⟩:=oR;exact q.elim⟩
theorem aG:gC eO X E:=λ_ _ _ _ _ _ _ h=>h.elim
def RS.seq (r:RS)(g:Sm):RS:=match r with|.nx fq S1=>g fq S1|r=>r
def RS.fP (r:RS):R Tr:=match r with|.nx _ S'=>.ok .bq S' | .rt t S'=>.ok t S' | _=>.ay
theorem acu (f g:Sm)(τ:En)(S:Cs):ao f g τ S=(f τ S).seq g:=rfl
theorem CG (N:List Str)(sb:Sm)(ts:List Tr)(S:Cs):dM N sb ts S=(sb (gG N ts) S).fP:=rfl
theorem UG {α β:Type}{c:Prop}(a b:R α)(k:α -> Cs->R β):(xG c a b).az k=xG c (a.az k) (b.az k):=by unfold xG;split<;>rfl
theorem N5 {α:Type}{c:Prop}(a b:R α)(k:α -> Cs->RS):(xG c a b).bQ k=xG c (a.bQ k) (b.bQ k):=by unfold xG;split<;>rfl
theorem UH {c:Prop}(a b:RS)(g:Sm):(xG c a b).seq g=xG c (a.seq g) (b.seq g):=by unfold xG;split<;>rfl
theorem UI {c:Prop}(a b:RS):(xG c a b).fP=xG c a.fP b.fP:=by unfold xG;split<;>rfl
theorem acv (τ:En)(S:Cs)(g:Sm):(RS.nx τ S).seq g=g τ S:=rfl
theorem acw (t:Tr)(S:Cs)(g:Sm):(RS.rt t S).seq g = .rt t S:=rfl
theorem UJ (g:Sm):RS.ay.seq g = .ay:=rfl
theorem acy (τ:En)(S:Cs):(RS.nx τ S).fP = .ok .bq S:=rfl
theorem uG (t:Tr)(S:Cs):(RS.rt t S).fP = .ok t S:=rfl
theorem UK:RS.ay.fP = .ay:=rfl
theorem Xc (τ:En)(S:Cs)(g:Sm):lpS (.nx τ S) g=g τ S:=rfl
theorem aiH (τ:En)(S:Cs)(g:Sm):lpS (.ct τ S) g=g τ S:=rfl
theorem aiI (t:Tr)(S:Cs)(g:Sm):lpS (.rt t S) g = .rt t S:=rfl
theorem bK {n:Nat}(h:n<=1000000):(n<=sizeLine)=True:=eq_true (zah h (by decide))
theorem lF {n:Nat}(h:n<1000000):(n<sizeLine)=True:=eq_true (zap h (by decide))
theorem ia {α:Type}(a:α)(S:Cs):jA (.ok a S) = .ok a S:=rfl
theorem acz {p:Prop}[Decidable p]:(decide p=true)=p:=propext decide_eq_true_iff
theorem aiJ {α:Type}(a b:α):(if True then a else b)=a:=if_pos trivial
theorem anF {α:Type}(a b:α):(if False then a else b)=b:=if_neg id
theorem N6 {b:Tr->En->Cs->R En}{f:Sm}{τ:En}{S:Cs}:jl (λ_=>True) b f [] τ S = .nx τ S:=by unfold jl;rw[if_pos trivial]
theorem Kh {b:Tr->En->Cs->R En}{f:Sm}{t:Tr}{r:List Tr}{τ:En}{S:Cs}:jl (λ_=>True) b f (t::r) τ S=(b t τ S).bQ λfq S1=>lpS (f fq S1) (jl (λ_=>True) b f r):=by
 conv=>lhs;unfold jl
 rw[if_pos trivial]
theorem yP {b:Tr->En->Cs->R En}{c:En->Cs->R Bool}{f:Em}{τ:En}{bO:List Tr}{S:Cs}:cV (λ_=>True) b c f [] τ bO S = .ok bO S:=by unfold cV;rw[if_pos trivial]
theorem uH {b:Tr->En->Cs->R En}{c:En->Cs->R Bool}{f:Em}{t:Tr}{r:List Tr}{τ:En}{bO:List Tr}{S:Cs}:cV (λ_=>True) b c f (t::r) τ bO S =
  (jA (b t τ S)).az λfq S1=>(jA (c fq S1)).az λx S2=>if x=true then (jA (f fq S2)).az λu S3=>(if bO.length<sizeLine then cV (λ_=>True) b c f r fq (bO++[u]) S3 else .ay) else cV (λ_=>True) b c f r fq bO S2:=by
 conv=>lhs;unfold cV
 rw[if_pos trivial]
theorem qZ {b:Tr->En->Cs->R En}{c:En->Cs->R Bool}{f:Em}{S:Cs}(τ0:En)(P:En->Prop)(g:Tr->Tr)(keep:Tr->Bool)
  : ∀(l:List Tr) (τ:En) (bO:List Tr),P τ -> (∀t∈l,∀ τ,P τ -> ∃fq,P fq/\b t τ S = .ok fq S/\c fq S = .ok (keep t) S/\(keep t=true->f fq S = .ok (g t) S))->bO.length+l.length<=1000000 ->
   cV (λ_=>True) b c f l τ bO S = .ok (bO++(l.filter keep).map g) S
 |[],τ,bO,hτ,h,hl=>by rw[yP];simp
 |t::r,τ,bO,hτ,h,hl=>by
  obtain⟨fq,p1,e1,e2,e3⟩:=h t (by simp) τ hτ
  rw[uH,e1,ia,R.dY,e2,ia,R.dY];have An:bO.length+1+r.length<=1000000:=by simp at hl;omega
  cases hk:keep t with
  |true =>
   rw[if_pos rfl,e3 hk,ia,R.dY,if_pos (zap (by omega:bO.length<1000000) (by decide)),qZ τ0 P g keep r fq _ p1 (λu hu=>h u (by simp[hu])) (by simp;omega)]
   simp[zbH,hk]
  |false =>
   rw[if_neg zai,qZ τ0 P g keep r fq _ p1 (λu hu=>h u (by simp[hu])) (by omega)]
   simp[zbH,hk]
theorem HU {α:Type}(l:List α)(a b:α):(l++[a]).set l.length b=l++[b]:=by
 induction l with
 |nil=>rfl
 |cons x r ih=>simp only[zbY,zas,zdV,ih]
theorem lG {α:Type}(l:List α)(a:α):(l++[a])[l.length]? = some a:=by simp
theorem Kl (S:Cs)(l:List Tr):cK (S++[.bD l]) S.length=some l:=by unfold cK;rw[lG]
theorem Km (S:Cs)(l:List (dF×Tr)):pR (S++[.iy l]) S.length=some l:=by unfold pR;rw[lG]
open Classical in
theorem pX {q:Fn}{ts:List Tr}{S S1:Cs}{t u:Tr}(h:q ts S = .ok t S1)(h1:S1.take S.length=S)(h2:CF S.length S1 t=some u):rS q ts S = .ok u S:=by
 unfold rS;rw[h];show (if S1.take S.length=S then _ else _)=_
 rw[if_pos h1,h2]
theorem pY (m:Nat):∀l:List Tr,Tr.jX m l=l.all (Tr.az m)
 |[]=>by unfold Tr.jX;rfl
 |t::l=>by unfold Tr.jX;rw[pY m l];rfl
theorem pZ:∀l:List Tr,Tr.pS l=l.all Tr.qQ
 |[]=>by unfold Tr.pS;rfl
 |t::l=>by unfold Tr.pS;rw[pZ l];rfl
theorem AL {m:Nat}{i:Int}:Tr.az m (.int i)=true:=by unfold Tr.az;rfl
theorem HV {m:Nat}{i:Str}:Tr.az m (.str i)=true:=by unfold Tr.az;rfl
theorem acA {m:Nat}{i:Bool}:Tr.az m (.bl i)=true:=by unfold Tr.az;rfl
theorem UL {m:Nat}:Tr.az m .bq=true:=by unfold Tr.az;rfl
theorem N7 {m:Nat}{l:List Tr}:Tr.az m (.tp l)=l.all (Tr.az m):=by unfold Tr.az;exact pY m l
theorem acB {m:Nat}{l:List Tr}:Tr.az m (.ls l)=l.all (Tr.az m):=by unfold Tr.az;exact pY m l
noncomputable def HW (K:W.Frag):Sp:=λvs H Q _=>∃(a:Addr) (ns:List Int),vs=[.ref a]/\jy K H a (ns.map V.int)/\ns.length<=63/\∀H',Q (.bl true) H'
theorem acC {P:Program}{w:World}{K:W.Frag}{mg:Str->Option Value}{base:Heap}{CX:BV}{j:Nat}{f:Addr}{fd:FuncData}{ps:List Str}{cl:Str->Addr}{q:Fn}(F:aP P w K mg base CX j f fd ps (dW K cl 1 q))
  (h:∀ns:List Int,ns.length<=63->∃S,q [.kl (ns.map Tr.int)] [] = .ok (.bl true) S):aP P w K mg base CX j f fd ps (HW K):=F.imp λvs H Q E bU=>by
 obtain⟨a,ns,ev,hS,hl,k⟩:=bU;subst ev;obtain⟨S,e⟩:=h ns hl;refine⟨⟨K,0,λ_=>0,H,λ_=>none⟩,[],[.kl (ns.map Tr.int)],⟨rfl,rfl,?_,λi c e=>(by simp at e),λi j ⟨c,e,_⟩=>(by simp at e),λb o e=>(by cases e),λi ⟨c,e,_⟩=>(by simp at e),λb xs e=>(by cases e)⟩,.cons ?_ .nil,rfl,?_⟩
 ·funext b
  unfold Fz;rw[if_neg];rintro (⟨i,⟨c,e,_⟩,_⟩|z)
  ·simp at e
  ·exact z rfl
 ·unfold RT
  exact⟨a,_,rfl,hS,bG.ints ns⟩
 ·rw[e]
  intro w' H' v _ _ rv;rw[kE rv];exact k H'
noncomputable def anG (t:Tr)(x:R Tr)(S:Cs):R Tr:=match t with|.bl true=>x|.bl false=>.ok (.bl false) S|_=>.ay
noncomputable def orV (t:Tr)(x:R Tr)(S:Cs):R Tr:=match t with|.bl true=>.ok (.bl true) S|.bl false=>x|_=>.ay
theorem Kn {p:Prop}[Decidable p]{a b:Bool}{S:Cs}:(if p then R.ok (Tr.bl a) S else R.ok (Tr.bl b) S)=R.ok (Tr.bl (if p then a else b)) S:=by split<;>rfl
theorem HX {α:Type}{l:List α}{n:Int}{m:Int}(hm:m=l.length)(h0:0<m):∃t,t∈l/\jG l (n % m)=some t:=by
 have h1:=zcF n (by omega:m≠0)
 have h2:=zcd n h0;obtain⟨j,hj⟩:=zbn h1;have EG:j<l.length:=by omega
 exact⟨l[j],zcQ EG,by rw[hj];exact h_ (zag EG)⟩
theorem uI {lo:Int}{n i:Nat}{t:Tr}(h:(sL lo n)[i]? = some t):i<n/\t = .int (lo+i):=by
 unfold sL at h;rw[zar] at h;have jD:i<n:=by
  cases ec:(List.range n)[i]? with
  |none=>rw[ec] at h;cases h
  |some c=>simpa using (zae.mp ec).1
 rw[List.getElem?_range jD] at h;cases h;exact⟨jD,rfl⟩
theorem nh {lo:Int}{n:Nat}:(sL lo n).length=n:=by simp[sL]
end L2
namespace L2
open PySem PySem.Spec PyProof.Rows
end L2
namespace L2
open PySem PySem.Spec PyProof.Rows
theorem AM:nY "int" "bool"=some false:=by decide +kernel
theorem CH:nY "int" "int"=some true:=by decide +kernel
theorem CI:nY "int" "str"=some false:=by decide +kernel
theorem xQ:nY "int" "tuple"=some false:=by decide +kernel
theorem AN:nY "int" "list"=some false:=by decide +kernel
theorem CJ:nY "str" "str"=some true:=by decide +kernel
theorem xR:nY "str" "tuple"=some false:=by decide +kernel
theorem AO:nY "str" "list"=some false:=by decide +kernel
theorem sM:nY "tuple" "tuple"=some true:=by decide +kernel
theorem uJ:nY "tuple" "list"=some false:=by decide +kernel
theorem uK:nY "list" "tuple"=some false:=by decide +kernel
theorem xS:nY "list" "list"=some true:=by decide +kernel
end L2
namespace L2
open PySem PySem.Spec PyProof.Rows
theorem uL:∀{l m:List Char},l.map Char.toNat=m.map Char.toNat->l=m
 |[],[],_=>rfl
 |[],_::_,h=>by simp at h
 |_::_,[],h=>by simp at h
 |a::l,b::m,h=>by
  simp only[zat,List.cons.injEq] at h;rw[uL h.2,Char.ext (UInt32.toNat_inj.mp h.1)]
theorem UM {a b:String}:(Str.ofString a=Str.ofString b)=(a=b):=by
 apply propext
 constructor
 ·intro h
  rw[Str.ofString_eq_byList] at h;unfold Str.ofStringByList at h;simp only[Str.mk.injEq] at h;have h2:a.toList.map Char.toNat=b.toList.map Char.toNat:=by simpa using h
  exact String.toList_inj.mp (uL h2)
 ·rintro rfl;rfl
theorem uM {iC:Cs->Prop}{b:Tr->En->Cs->R En}{c:En->Cs->R Bool}{f:Em}{τ:En}{bO:List Tr}{S:Cs}(h:iC S):cV iC b c f [] τ bO S = .ok bO S:=by unfold cV;rw[if_pos h]
theorem rT {iC:Cs->Prop}{b:Tr->En->Cs->R En}{c:En->Cs->R Bool}{f:Em}{t:Tr}{r:List Tr}{τ:En}{bO:List Tr}{S:Cs}(h:iC S):cV iC b c f (t::r) τ bO S =
  (jA (b t τ S)).az λfq S1=>(jA (c fq S1)).az λx S2=>if x=true then (jA (f fq S2)).az λu S3=>(if bO.length<sizeLine then cV iC b c f r fq (bO++[u]) S3 else .ay) else cV iC b c f r fq bO S2:=by
 conv=>lhs;unfold cV
 rw[if_pos h]
theorem cI {α:Type}{iC:Cs->Prop}{b:Tr->En->Cs->R En}{c:En->Cs->R Bool}{f:Em}{S:Cs}(hS:iC S)(P:En->Prop)(k:α -> Tr)(g:α -> Tr)(keep:α -> Bool)
  : ∀(l:List α) (τ:En) (bO:List Tr),P τ -> (∀a∈l,∀ τ,P τ -> ∃fq,P fq/\b (k a) τ S = .ok fq S/\c fq S = .ok (keep a) S/\(keep a=true->f fq S = .ok (g a) S))->bO.length+l.length<=1000000 ->
   cV iC b c f (l.map k) τ bO S = .ok (bO++(l.filter keep).map g) S
 |[],τ,bO,hτ,h,hl=>by rw[zcc,uM hS];simp
 |t::r,τ,bO,hτ,h,hl=>by
  obtain⟨fq,p1,e1,e2,e3⟩:=h t (by simp) τ hτ
  rw[zat,rT hS,e1,ia,R.dY,e2,ia,R.dY];have An:bO.length+1+r.length<=1000000:=by simp at hl;omega
  cases hk:keep t with
  |true =>
   rw[if_pos rfl,e3 hk,ia,R.dY,if_pos (zap (by omega:bO.length<1000000) (by decide)),cI hS P k g keep r fq _ p1 (λu hu=>h u (by simp[hu])) (by simp;omega)]
   simp[zbH,hk]
  |false =>
   rw[if_neg zai,cI hS P k g keep r fq _ p1 (λu hu=>h u (by simp[hu])) (by omega)]
   simp[zbH,hk]
theorem FP {α β γ:Type}(f:α -> Bool)(g:α -> γ):∀{l:List α} {l':List β},l'.length=l.length->((l.zip l').filter λp=>f p.1).map (λp=>g p.1)=(l.filter f).map g
 |[],_,_=>by simp
 |a::l,[],h=>by simp at h
 |a::l,b::l',h=>by
  have h':l'.length=l.length:=by simpa using h
  rw[zcG,zbH,zbH];cases f a
  ·simp only[zaC,if_false];exact FP f g h'
  ·simp only[if_true,zat];rw[FP f g h']
theorem HY {α β γ:Type}(g:β -> γ):∀{l:List α} {l':List β},l'.length=l.length->(l.zip l').map (λp=>g p.2)=l'.map g
 |[],[],_=>rfl
 |[],_::_,h=>by simp at h
 |a::l,[],h=>by simp at h
 |a::l,b::l',h=>by
  have h':l'.length=l.length:=by simpa using h
  rw[zcG,zat,zat,HY g h']
theorem N8 {α β:Type}:∀{l:List α} {l':List β} {p:α × β},p∈l.zip l'->∃j:Nat,l[j]? = some p.1/\l'[j]? = some p.2
 |[],_,p,h=>by simp at h
 |_::_,[],p,h=>by simp at h
 |a::l,b::l',p,h=>by
  rw[zcG] at h;rcases zam.mp h with rfl|h
  ·exact⟨0,rfl,rfl⟩
  ·obtain⟨j,h1,h2⟩:=N8 h
   exact⟨j+1,by simpa using h1,by simpa using h2⟩
theorem HR.ext (h:HR G w S H)(k:∀b o,H b=some o->H' b=some o):HR G {w with F:=Fz w.ρ w.hid S H' } S H'/\w.le {w with F:=Fz w.ρ w.hid S H' }:=by
 have hF:∀b o,w.F b=some o->Fz w.ρ w.hid S H' b=some o:=λb o e=>by
  rw[h.F] at e;unfold Fz at e ⊢
  split at e
  ·cases e
  ·rename_i hn
   rw[if_neg hn];exact k b o e
 have le:w.le {w with F:=Fz w.ρ w.hid S H' }:=⟨rfl,zaf _,λ_ _=>rfl,hF,rfl⟩
 exact⟨⟨h.K,h.n,rfl,λi c e=>(h.cell i c e).mono le λu eu=>k _ _ eu,h.inj,λb o e=>k b o (h.hid b o e),h.ku,h.hl⟩,le⟩
section
variable {P:Program}{q8:World}{K:W.Frag}{mg:Str->Option Value}{base:Heap}{N:List Str}{bY:Str}{scope:Scope}{f:Addr}{fG:Value}{A:Around}{outer:List Env}{s₀:Shared}{H₀:Hp}{E:XK}{cl:Str->Addr}{k:Nat}
def Xd (C:Addr)(n:Nat)(g:List V->List (Str×V)):Sp:=λvs H Q _=>∃(a:Addr) (xs:List V),vs = .ref a::xs/\xs.length=n/\H a=some (EO a C none) /\
 ∀(d:Addr) (H':Hp),H d=none->H' a=some (EO a C (some d))->H' d=some (ED d (g xs))->(∀b o,H b=some o->b≠a->H' b=some o)->Q .bq H'
theorem HR.acD (h:HR G w S H)(hx:H x=none)(hd:H d=none)(dx:d≠x)(h2x:H2 x=some (EO x (G.cl c) (some d)))(h2d:H2 d=some (ED d xF))
  (kp:∀b o,H b=some o->H2 b=some o) (hT:H2 T=none) (Tx:T≠x) (r:RK w fs xF):∃w',w.le w'/\w'.ρ S.length=x/\HR G w' (S++[.xD c fs]) (bf (bf H2 x (uh x (G.cl c) (some d) T)) T (TB T)):=by
 have h3:∀b o,H b=some o->(λb=>if b=x then none else H2 b) b=some o:=λb o e=>by
  show (if b=x then none else H2 b)=some o
  rw[if_neg λz=>by subst z;rw[hx] at e;cases e]
  exact kp b o e
 obtain⟨dI,fj⟩:=h.ext (H':=λb=>if b=x then none else H2 b) h3
 have hT3:(λb=>if b=x then none else H2 b) T=none:=by
  show (if T=x then none else H2 T)=none
  rw[if_neg Tx,hT]
 obtain⟨nH,jb⟩:=dI.W2 hT3 (TB T)
 have dT:d≠T:=λz=>by rw[z,hT] at h2d;cases h2d
 have hp:bf (λb=>if b=x then none else H2 b) T (TB T) x=none:=by
  rw[av Tx.symm];show (if x=x then none else H2 x)=none
  rw[if_pos rfl]
 have hH:bf (bf (λb=>if b=x then none else H2 b) T (TB T)) x (uh x (G.cl c) (some d) T)=bf (bf H2 x (uh x (G.cl c) (some d) T)) T (TB T):=by
  funext b
  by_cases b1:b=x
  ·subst b1
   rw[aq,av Tx.symm,aq]
  ·rw[av b1]
   by_cases b2:b=T
   ·subst b2
    rw[aq,aq]
   ·rw[av b2,av b2,av b1]
    show (if b=x then none else H2 b)=_
    rw[if_neg b1]
 have NF:=Wd.uq { {w with F:=Fz w.ρ w.hid S λb=>if b=x then none else H2 b} with F:=bf (Fz w.ρ w.hid S λb=>if b=x then none else H2 b) T (TB T)} x
 obtain⟨HA,_⟩:=nH.Fq hp (o:=uh x (G.cl c) (some d) T) (c:=.xD c fs) rfl (by
  refine⟨T,d,xF,aq,aq,?_,Tx,dx,r.mono (fj.trans (jb.trans NF))⟩
  show bf (Fz w.ρ w.hid S λb=>if b=x then none else H2 b) T (TB T) d=_
  rw[av dT];unfold Fz;rw[if_neg (h.free hd)];show (if d=x then none else H2 d)=_
  rw[if_neg dx,h2d])
 rw[hH] at HA;refine⟨_,fj.trans (jb.trans NF),?_,HA⟩
 show (if S.length=w.n then x else w.ρ S.length)=x
 rw[if_pos h.n.symm]
def AQ (c:Str)(n:Nat)(gT:List Tr->List (Str×Tr))(HZ:List Tr)(fr:En->Cs->R (List Tr)):Sm:=λτ S=>(fr τ S).bQ λts S1=>if ts.length+HZ.length=n/\n<=1000 then .ex S1.length (S1++[.xD c (gT (ts++HZ))]) else .ay
theorem N9 
  (M:sU K (cl c) fi bm) (F:aP P q8 K mg base eO j fi fd ps (Xd (cl c) n g)) (hj:j+1<=k) (hm:mg x=some (.ref (cl c))) (hb:eW K fd ps ds) (hd:bE nF ds) (hdt:∀w,bG w HZ nF) (hg:∀w ts vs,bG w ts vs->ts.length=n->RK w (gT ts) (g vs))
  (ha:xH ⟨K,cl,E⟩ k (jC (xA P q8) P q8 K mg base N bY scope f fG A outer s₀ H₀ E) (e::es) fr)
  (hgl:Gl (jC (xA P q8) P q8 K mg base N bY scope f fG A outer s₀ H₀ E) x:=by rfl) (tU:(x == ("__debug__":Str))=false:=by decide) (hs:dH e=false:=by rfl) (B6:dD es=true:=by rfl) (EF:0<k:=by first|decide|omega):
  xJ ⟨K,cl,E⟩ k (jC (xA P q8) P q8 K mg base N bY scope f fG A outer s₀ H₀ E) (.Raise (some (.Call (.Name x p) (e::es) [] gA)) none pos) (AQ c n gT HZ fr):=.mk<|λox =>
 (Nf (abr (X:=jC (xA P q8) P q8 K mg base N bY scope f fG A outer s₀ H₀ E) (E:=E0) M F ((ox.room EF).mono hj) hgl hm hb hd (λ_ _ _ _ _ _ _ h=>h.elim) (ha ox) tU (cU hs) (f6 B6))).wk λD σ H h=>by
  obtain⟨w,S,τ,hr,sl,q⟩:=h;refine⟨w,S,τ,hr,sl,(bV.az q).mono λvs H1 bU=>?_⟩
  obtain⟨w1,S1,ts,cX,bH,r1,_,q1⟩:=bU;split at q1
  ·rename_i hn
   have hl:vs.length<=1000:=by rw[r1.len];omega
   refine⟨hl,λx' RO=>⟨x',vs++nF,rfl,?_,aq,λd H' RL e1 e2 kp=>⟨rfl,x',cl c,fi,bm,some d,rfl,e1,M,λT hT Tx=>?_⟩⟩⟩
   ·rw[zan,r1.len,(hdt w1).len];exact hn.1
   ·have dx:d≠x':=λz=>by rw[z,aq] at RL;cases RL
    have hd2:H1 d=none:=by rw[av dx] at RL;exact RL
    obtain⟨w',le',ρx,xO⟩:=bH.acD (c:=c) (fs:=gT (ts++HZ)) (xF:=g (vs++nF)) RO hd2 dx e1 e2 (λb o eb=>kp b o (by rw[av λz=>by rw[z,RO] at eb;cases eb];exact eb) λz=>by rw[z,RO] at eb;cases eb) hT Tx (hg w1 _ _ (r1.sI (hdt w1)) (by rw[zan];exact hn.1))
    obtain⟨c',LG,ec,kk⟩:=q1;have ec2:c'=c:=by
     simp only[lG] at ec;cases ec;rfl
    subst ec2
    have:=kk w' _ le' xO
    rw[ρx] at this;exact this
  ·exact q1.elim
def fnX (N:List Str)(sb:Sm):Fn:=λts S=>match sb (gG N ts) S with|.nx _ S'=>.ok .bq S' | .rt t S'=>.ok t S' | .ex n S'=>.ex n S' | _=>.ay
theorem acE {st:Stmt}(F:LJ K x bY st f fd)(Sc:au N ps (aj st))
  (hb:∀fG A outer s H E,J_ ⟨K,cl,E⟩ k (jC (xA P q8) P q8 K mg base N bY (aj st) f fG A outer s H E) (cT st) sb):aP P q8 K mg base (xA P q8) (k+1) f fd ps (dW K cl ps.length (fnX N sb)):=by
 refine F.okX Sc (λvs H Q E dh=>by obtain⟨w,S,ts,hr,r,hn,_⟩:=dh;rw[r.len,hn]) λfG A outer s H vs Q E hr eZ=>?_
 obtain⟨w,S,ts,R5,r,hn,q⟩:=eZ;refine⟨_,hb fG A outer s H E ⟨rfl,λ_=>rfl,λ_=>hr,zdi (Nat.add_le_add_right (zbw _ _) 200) hr.un⟩,w,S,gG N ts,R5,Sl.cW N r,?_⟩
 unfold fnX at q;cases e:sb (gG N ts) S with
 |nx qY S'=>rw[e] at q;exact λw' H' eV le xO sl'=>q w' H' _ le xO qO
 |rt t S'=>rw[e] at q;exact λw' H' v le xO rv=>q w' H' v le xO rv
 |bk qY S'=>rw[e] at q;exact q.elim
 |ct qY S'=>rw[e] at q;exact q.elim
 |ex qY S'=>rw[e] at q;exact q
 |ay=>rw[e] at q;exact q.elim
end
theorem AR (hC:s.heap.get? C=some (excClassObj nm q C N bs bm xx sn sub ab ua dd k0 k1 k2 k3 k5 pN))(hB:s.heap.get? B=some (excClassObj RX q' B N' RY Hu ow RZ xB R0 xC BE j0 j1 j2 j3 j5 jT))
  (he:s.heap.get? a=some oe) (aar:oe.cls = .ref C) (hb:Hu.contains (.type "BaseException")=true) (h2:(Value.ref C::bm).contains (.ref B)=true) (hq:Q true s):wpAny M A (excMatches (.ref a) (.ref B)) Q E s:=by
 have h1:(Value.ref B::Hu).contains (.type "BaseException")=true:=by rw[zbK,hb,zdf]
 have f:=tc_notTuple;obtain⟨hp,g,d,tk,os⟩:=s;unfold excMatches;repeat (first | (with_reducible refine zbT he ?_;rw[aar])|with_reducible refine zbT hB ?_ | (with_reducible refine zcZ hB ?_;rw[h1]) | (with_reducible refine zcZ hC ?_;rw[h2])|wp_step)
 exact hq
def acF (K:W.Frag)(B:Addr)(kk:Addr->Hp->Prop):XK:=λcls oa H2=>∃(a C f:Addr) (bm:List Value) (od:Option Addr) (T:Addr),oa=some a/\cls = .ref C/\sU K C f bm/\(Value.ref C::bm).contains (.ref B)=true /\
 H2 a=some (uh a C od T)/\H2 T=some (TB T)/\T≠a/\∀T',H2 T'=none->T'≠a->kk a (bf (bf H2 a (uh a C od T')) T' (TB T'))
def acG (K:W.Frag)(C:Addr)(m:Str)(B:Addr)(sp:Sp)(ta:TE)(t:TA)(ts:TS):TS:=λD σ H=>Hf C m sp [] (acF K B λ_ H'=>ts D σ H') ta t σ H λ_ H3=>D.nx σ H3
section
variable {X:Cx}{k:Nat}{g B C:Addr}{fd:FuncData}{ps:List Str}{sp:Sp}{e o:Expr}{es:List Expr}{ta:TE}{t:TA}{n m cB:Str}{l:Nat}{p cp ap np ep hp pos:Pos}{jK:List Stmt}{p_:Stmt}{ts:TS}
 {RX q':Str} {N':Addr} {RY Hu:List Value} {ow:Bool} {RZ:List Str} {xB:List Value} {R0:Bool} {xC:Option Bool} {BE:Option Addr} {j0 j1 j2 j3 j5:Option Value} {jT:String}
theorem Ko {D:BP}(Xe:X.d9=true)(AS:X.dc=X.env::X.outer)(JY:X.env.frame=some X.env.locals)(hgB:Gl X cB)(hmB:X.mg cB=some (.ref B))
  (hB:X.K.lookup B=some (excClassObj RX q' B N' RY Hu ow RZ xB R0 xC BE j0 j1 j2 j3 j5 jT)) (hbB:Hu.contains (.type "BaseException")=true) (UN:(cB == ("__debug__":Str))=false)
  (I1:aH X ah σ H1 s1) (hq:xA X.prog X.w X.dc H1 s1 (acF X.K B kk) ev s')
  (hs:∀a C od T' s4 H4,ev = .ref a->H4 a=some (uh a C od T')->H4 T'=some (TB T')->aH (X.mU a) ah σ H4 s4->kk a H4->codeAny (model X.prog X.w) (X.A.mark (some (.ref a))) (.handlers (.ref a) [.ExceptHandler none name (p_::jK) hp] X.env) (λr j7=>match r with
     |.ok f=>(match name with
      |none=>SP X ah D f j7
      |some n=>wpAny (model X.prog X.w) X.A (do bindName X.env n .none;unbindBehindTheSuite X.env n hp) (λ_ xm=>SP X ah D f xm) X.xe j7)
     |.error x=>cameBackBy (model X.prog X.w) X.A X.env X.xe x j7) s4):
  wpAny (model X.prog X.w) X.A (noteFrame ev X.env) (λ_ j7=>wpAny (model X.prog X.w) X.A (setFlight ev none) (λ_ xm=>wpAny (model X.prog X.w) X.A (handleBy ev X.env [.ExceptHandler (some (.Name cB np)) name (p_::jK) hp]) (SP X ah D) X.xe xm) X.xe j7) X.xe s':=by
 obtain⟨a,_,_,_,H2,rfl,LI,aiM,un,bZ,_,_,_,a9,C,f,bm,od,T,ea,ec,Mk,BH,RV,hT2,Ta,kq⟩:=hq;cases ea;have I2:aH X ah σ H2 s':=I1.G3 (ch:=[]) LI un bZ aiM (λb z=>absurd z (by simp))
 obtain⟨t0,ga⟩:=(show ∃t,s'.heap.get? a=some (l_ C od t (.ref T)) from (I2.bZ a _ RV).1)
 have gT:xy s'.heap T:=(I2.bZ T _ hT2).1
 have mD:s'.heap.FunFrames X.base (X.env::X.outer):=by rw[<-AS];exact I2.BW.mD
 have frames:X.A.frames=some (X.env::X.outer):=by rw[<-AS];exact I2.ok.frames
 refine JZ (base:=X.base) frames mD JY ga gT Ta λh1 h' T' k1 tb1 z1 Lf=>?_
 have Ta':T'≠a:=zbv (zap (zaj ga) (by rw[<-z1];exact Lf.new))
 have nT':H2 T'=none:=I2.bZ.fresh (by rw[<-z1];exact Lf.new)
 have I3:aH X ah σ (bf (bf H2 a (uh a C od T')) T' (TB T')) {s' with heap:=h' }:=I2.Ng RV hT2 Ta Ta' k1 tb1 z1 (by rw[AS];exact Lf)
 have I3m:=I3.mU a;refine wpAny_handleBy_cons (codeAny_handlers_test (nE I3m hgB hmB ?_ UN)) (by intro q;cases q)
 obtain⟨nm,qn,N0,bs,sn,sub,ab,ua,dd,k0,k1',k2,k3,k5,lk⟩:=Mk.j8;refine AR (I3.kT _ _ lk) (I3.kT _ _ hB) Lf.j8 rfl hbB BH ?_
 exact hs a C od T' _ _ rfl (by rw[av Ta'.symm,aq]) aq I3m (kq T' nT' Ta')
theorem FQ (I:aH X ah σ H s)(ha:H a=some (uh a C od T))(hT:H T=some (TB T))
  (h:∀s',aH X ah σ H s'->Q () s'):wpAny M A (setFlight (.ref a) none) Q E s:=by
 obtain⟨t0,e1⟩:=(show ∃t,s.heap.get? a=some (l_ C od t (.ref T)) from (I.bZ a _ ha).1)
 obtain⟨oT,ts,eT,dT,h3⟩:=(show xy s.heap T from (I.bZ T _ hT).1)
 unfold setFlight;refine zaa (zay e1 rfl (x:=.ref T) rfl ?_)
 rw[if_pos (show (Value.ref T != Value.none)=true from by simp)]
 have sz:=(zcT.mp h3).1
 refine zbr eT dT sz ?_
 have fT:(s.heap.update T (Obj.mapFields (·.setIfInBounds 3 ((none:Option Addr).elim Value.none λf=>rawInt f)))).get? T=some (Obj.mapFields (·.setIfInBounds 3 ((none:Option Addr).elim Value.none λf=>rawInt f)) oT):=zaA _ eT (zcL (zbx dT _))
 have tb4:xy (s.heap.update T (Obj.mapFields (·.setIfInBounds 3 ((none:Option Addr).elim Value.none λf=>rawInt f)))) T:=⟨_,_,fT,zbx dT _,by simp[sz]⟩
 have I4:=I.j6 (x:=T) (e:=T) (o:=TB T) (t':=s.toks) (h':=s.heap.update T (Obj.mapFields (·.setIfInBounds 3 ((none:Option Addr).elim Value.none λf=>rawInt f))))
  (by rw[hT];exact True.intro) (.inl rfl) (λb u nb hb=>(zaE _ _ (zbe nb)).trans hb) ⟨_,fT⟩ (Hw tb4)
 rw[B_ hT] at I4;exact h _ I4
theorem N_ (Xe:X.d9=true)(AS:X.dc=X.env::X.outer)(JY:X.env.frame=some X.env.locals)(hgB:Gl X cB)(hmB:X.mg cB=some (.ref B))
  (hB:X.K.lookup B=some (excClassObj RX q' B N' RY Hu ow RZ xB R0 xC BE j0 j1 j2 j3 j5 jT)) (hbB:Hu.contains (.type "BaseException")=true)
  (he:PE X.Et o ta) (c:wZ X.K C) (hm:dJ X.K C m g) (F:aP X.prog X.w X.K X.mg X.base (xA X.prog X.w) k g fd ps sp) (hr:gU k X.A) (hb:eW X.K fd ps []) (ha:PA X.Et (e::es) t)
  (hs:∀a,yf (X.mU a).Et (p_::jK) ts)
  (UN:(cB == ("__debug__":Str))=false:=by decide) (TR:swapsWith (.Call (.Attribute o m ap) (e::es) [] cp) none ep.line X.env=pure false:=by rfl)
  (om:starEach (e::es) X.env=(false,eval e X.env)::starEach es X.env:=by rfl) (hpl:(backTo cp (starEach es X.env)).any (·.1)=false:=by rfl)
  (ht:eval (.Call (.Attribute o m ap) (e::es) [] cp) X.env=(do
   let ov <-eval o X.env
   standAt ap.atName
   let (f,first) <-holding [ov] (getMethod ov m pl)
   callWith cp f first (backTo cp (starEach (e::es) X.env)) (backToKw cp (keywordEach [] X.env))):=by rfl):
  PS X (.Try [.Expr (.Call (.Attribute o m ap) (e::es) [] cp) ep] [.ExceptHandler (some (.Name cB np)) none (p_::jK) hp] [] [] pos) (acG X.K C m B sp ta t ts):=by
 intro ah s σ H D I h;have hhd:X.d9=true->X.A.handled=none:=I.ok.hd
 refine wpAny_Try_except (zel (wpAny_Expr_any ?_ I.quiet TR))
 refine W.methodCall_KW (pl:=pl) (zaO (he ah s σ H _ (I.sE _) h) (λu s1 eZ=>?_) λ_ _ z=>z.elim) ht
 obtain⟨x,H1,I1',rx,a,dx,fs,ex,ea,lk,q⟩:=eZ;have I1:aH X ah σ H1 s1:=I1'.gp
 subst ex;obtain rfl:u=Value.ref a:=rx
 refine oN I1 ea c hm lk ?_
 refine W.callWith_K (first:=[.ref a]) (h₀:= X.base) I.ok.tK.kin hm.kp (zaO (ha cp ah s1 σ H1 _ I1' q) (λus s2 ⟨vs,H2,I2',r,q2⟩=>⟨I2'.gp.kT,?_⟩) λ_ _ z=>z.elim) om hpl
 have I2:aH X ah σ H2 s2:=I2'.gp
 have r2:bE (V.ref a::vs) (Value.ref a::us):=.cons rfl r
 have q2:sp (V.ref a::(vs++[])) H2 _ _:=q2
 rw[zax] at q2;have cM:(Value.ref a::us).length=ps.length:=by rw[<-r2.length];exact F.len _ _ _ _ q2
 have az:=hb s2 (Value.ref a::us) I2.kT (by rw[zax];exact cM)
 rw[zax] at az;refine zdj (zcp (F.kY X.A X.dc s2 H2 ⟨Value.ref a::us,[]⟩ (Value.ref a::us) (V.ref a::vs) _ _ hr I2.BW az r2 q2) λrr s' hq=>?_)
 cases rr with
 |ok fl =>
  cases fl with
  |ret u =>
   obtain⟨v,H3,I3,rv,q3⟩:=I2.after hq;exact zda (zda ⟨σ,H3,I3,q3⟩)
  |next=>exact False.elim hq
  |brk=>exact False.elim hq
  |cont=>exact False.elim hq
 |error ev =>
  refine Ko Xe AS JY hgB hmB hB hbB UN I2 hq λa C od T' s4 H4 _ ha4 hT4 I4 kq=>?_
  refine codeAny_handlers_suite (FQ I4 ha4 hT4 λs5 I5=>?_)
  refine zaO (hs a ah s5 σ H4 _ (I5.sE _) kq) (λfl s7 h7=>?_) λ_ _ z=>z.elim
  cases fl with
  |next=>obtain⟨eV,H',I7,q7⟩:=h7;exact⟨_,_,I7.gp.pO hhd,q7⟩
  |brk=>obtain⟨eV,H',I7,q7⟩:=h7;exact⟨_,_,I7.gp.pO hhd,q7⟩
  |cont=>obtain⟨eV,H',I7,q7⟩:=h7;exact⟨_,_,I7.gp.pO hhd,q7⟩
  |ret u=>obtain⟨v,eV,H',I7,r7,q7⟩:=h7;exact⟨v,_,_,I7.gp.pO hhd,r7,q7⟩
end
noncomputable def CK (S:Cs)(n:Nat):Option (Str×List (Str×Tr)):=match S[n]? with|some (.xD c fs)=>some (c,fs)|_=>none
theorem oW (h:CK S n=some (c,fs)):S[n]? = some (.xD c fs):=by
 unfold CK at h;split at h
 ·cases h;assumption
 ·cases h
section
variable {G:Gx}{k:Nat}{X:Cx}{o a:Expr}{fo fa:Em}{pos p p2:Pos}
structure Sys (K:W.Frag):Prop where
 get:W.specialIn K (.builtin "object.__class__") "__get__"=some (some (.builtin "getset_descriptor.__get__"))
 aqi:W.takesIn K (.builtin "object.__class__")=some true
end
noncomputable def AU (l:Option Nat)(x:Option Tr)(τ:En):En:=match l with|some l=>τ.set l x|none=>τ
def yQ (l:Option Nat)(r:RS):RS:=match r with
 |.nx τ S=>.nx (AU l none τ) S
 |.bk τ S=>.bk (AU l none τ) S
 |.ct τ S=>.ct (AU l none τ) S
 |.rt t S=>.rt t S
 |_=>.ay
def lH (cs:List Str)(l:Option Nat)(sh:Sm)(τ:En)(r:R Tr):RS:=match r with
 |.ok _ S=>.nx τ S
 |.ex e S=>(match CK S e with|some (c,_)=>if c∈cs then yQ l (sh (AU l (some (.hd e)) τ) S) else .ay|none=>.ay)
 |.ay=>.ay
def H_ (c m:Str)(n:Nat)(q:Fn)(fo:Em)(fr:En->Cs->R (List Tr))(cs:List Str)(l:Option Nat)(sh:Sm):Sm:=λτ S=>(fo τ S).bQ λt S1=>match t with
 |.hd i=>(match iT S1 i with
  |some (c',fs)=>if c'=c/\(aN m fs).isNone=true then (fr τ S1).bQ λts S2=>(if (t::ts).length=n then lH cs l sh τ (q (t::ts) S2) else .ay) else .ay
  |none=>.ay)
 |_=>.ay
def sY (G:Gx)(B:Addr)(cs:List Str):Prop:=∀c∈cs,∃f bm,sU G.K (G.cl c) f bm/\(Value.ref (G.cl c)::bm).contains (.ref B)=true
theorem jm {α:Type}:∀{l:List α} {i:Nat} {c:α},l[i]? = some c->l.set i c=l
 |[],i,c,h=>by simp at h
 |x::r,0,c,h=>by simp at h;simp[h]
 |x::r,i+1,c,h=>by simp only[zaL] at h;rw[zdV,jm h]
theorem HR.Ng (h:HR G w S H)(he:S[e]? = some (.xD c fs)):∃d T,H (w.ρ e)=some (uh (w.ρ e) (G.cl c) (some d) T)/\H T=some (TB T)/\T≠w.ρ e /\
  ∀T',H T'=none->T'≠w.ρ e->∃w',w.le w'/\w'.ρ=w.ρ /\ HR G w' S (bf (bf H (w.ρ e) (uh (w.ρ e) (G.cl c) (some d) T')) T' (TB T')):=by
 obtain⟨T,d,xF,h1,h2,h3,h4,h5,h6⟩:=h.cell _ _ he;refine⟨d,T,h1,h.sub _ _ h2,h4,λT' hT' ne=>?_⟩
 obtain⟨dI,fj⟩:=h.W2 hT' (TB T')
 have hdT:d≠T':=λz=>by rw[z,h.Nv hT'] at h3;cases h3
 have nH:=dI.put he rfl (c':=.xD c fs) rfl (o:=uh (w.ρ e) (G.cl c) (some d) T') ⟨T',d,xF,aq,aq,by show bf w.F T' (TB T') d=_;rw[av hdT];exact h3,ne,h5,h6.mono fj⟩
 rw[jm he] at nH;refine⟨_,fj,rfl,?_⟩
 have:bf (bf H (w.ρ e) (uh (w.ρ e) (G.cl c) (some d) T')) T' (TB T')=bf (bf H T' (TB T')) (w.ρ e) (uh (w.ρ e) (G.cl c) (some d) T'):=by
  funext b
  by_cases b1:b=T'
  ·subst b1;rw[aq,av ne,aq]
  ·rw[av b1]
   by_cases b2:b=w.ρ e
   ·subst b2;rw[aq,aq]
   ·rw[av b2,av b2,av b1]
 rw[this];exact nH
section
variable {K:W.Frag}{cl:Str->Addr}{k j n:Nat}{X:Cx}{f B:Addr}{fd:FuncData}{ps:List Str}{q:Fn}{m cB nn c:Str}{p cp ap np ep hp pos:Pos}{e o:Expr}{es:List Expr}{fr:En->Cs->R (List Tr)}{fo:Em}{jK:List Stmt}{p_:Stmt}{sh:Sm}{l:Nat}{cs:List Str}
 {RX q':Str} {N':Addr} {RY Hu:List Value} {ow:Bool} {RZ:List Str} {xB:List Value} {R0:Bool} {xC:Option Bool} {BE:Option Addr} {j0 j1 j2 j3 j5:Option Value} {jT:String}
theorem HR.swE (h:HR ⟨K,cl,E⟩ w S H):HR ⟨K,cl,E'⟩ w S H:=HR.unx (G:=⟨K,cl,E'⟩) (HR.nx (G:=⟨K,cl,E⟩) h)
theorem Oa {lo:Option Nat}(hC:sY ⟨K,cl,E⟩ B cs)(sl:Sl w2 τ σ)(q2:bV ⟨K,cl,E⟩ w2 (lH cs lo sh τ r) D)
  (hkk:∀a H',(∃w S n,w2.le w/\HR ⟨K,cl,E⟩ w S H'/\n<w.n/\a=w.ρ n/\bV ⟨K,cl,E⟩ w (yQ lo (sh (AU lo (some (.hd n)) τ) S)) D)->kk a H'):aZ RT ⟨K,cl,acF K B kk⟩ w2 r λ_ H3=>D.nx σ H3:=by
 cases r with
 |ok a S3=>exact λw' H' b le xO _=>q2 w' H' σ le xO.swE (sl.mono le)
 |ay=>exact q2
 |ex en S3 =>
  unfold lH at q2;simp only at q2
  split at q2
  ·rename_i c2 fs2 ei
   split at q2
   ·rename_i hc
    refine⟨c2,fs2,oW ei,λw' H' le xO=>?_⟩
    obtain⟨d,T,h1,h2,h3,h4⟩:=xO.Ng (oW ei)
    obtain⟨f',bm,M,BH⟩:=hC c2 hc;refine⟨_,_,f',bm,some d,T,rfl,rfl,M,BH,h1,h2,h3,λT' a1 a2=>?_⟩
    obtain⟨w3,jb,e3,nH⟩:=h4 T' a1 a2;have hn:en<w3.n:=by
     have:=(zae.mp (oW ei)).1
     rw[nH.n];exact this
    exact hkk _ _ ⟨w3,S3,en,le.trans jb,nH.swE,hn,by rw[e3],bV.wd (le.trans jb) q2⟩
   ·exact q2.elim
  ·exact q2.elim
theorem Ob {pl:Sem Bool}(hB:K.lookup B=some (excClassObj RX q' B N' RY Hu ow RZ xB R0 xC BE j0 j1 j2 j3 j5 jT))(hbB:Hu.contains (.type "BaseException")=true)(hC:sY ⟨K,cl,E0⟩ B cs)(hmB:X.mg cB=some (.ref B))
  (hc:wZ K (cl c)) (hM:dJ K (cl c) m f) (F:aP X.prog X.w X.K X.mg X.base (xA X.prog X.w) j f fd ps (dW K cl n q)) (hj:j<=k) (hb:eW X.K fd ps []) (ho:TV ⟨K,cl,E0⟩ k X.Et o fo) (ha:xH ⟨K,cl,E0⟩ k X.Et (e::es) fr)
  (hs:∀a,J_ ⟨K,cl,E0⟩ 0 (X.mU a).Et (p_::jK) sh) (AS:X.dc=X.env::X.outer:=by rfl) (JY:X.env.frame=some X.env.locals:=by rfl)
  (hgB:Gl X cB:=by rfl) (UN:(cB == ("__debug__":Str))=false:=by decide) (TR:swapsWith (.Call (.Attribute o m ap) (e::es) [] cp) none ep.line X.env=pure false:=by rfl)
  (om:dH e=false:=by rfl) (hpl:dD es=true:=by rfl)
  (ht:eval (.Call (.Attribute o m ap) (e::es) [] cp) X.env=(do
   let ov <-eval o X.env
   standAt ap.atName
   let (f,first) <-holding [ov] (getMethod ov m pl)
   callWith cp f first (backTo cp (starEach (e::es) X.env)) (backToKw cp (keywordEach [] X.env))):=by rfl) (EF:0<k:=by first|decide|omega):
  xJ ⟨K,cl,E0⟩ k X (.Try [.Expr (.Call (.Attribute o m ap) (e::es) [] cp) ep] [.ExceptHandler (some (.Name cB np)) none (p_::jK) hp] [] [] pos) (H_ c m n q fo fr cs none sh):=.mk<|λox =>
 (N_ (pl:=pl) (C:=cl c) (ox.d9 EF) AS JY hgB hmB (by rw[ox.K];exact hB) hbB (ho ⟨ox.K,ox.d9,ox.room,ox.un⟩) (by rw[ox.K];exact hc) (by rw[ox.K];exact hM) F ((ox.room EF).mono hj) hb (ha ⟨ox.K,ox.d9,ox.room,ox.un⟩)  (λa=>hs a ⟨ox.K,λz=>absurd z (zaY 0),λz=>absurd z (zaY 0),ox.un⟩) UN TR (cU om) (f6 hpl) ht).wk λD σ H h=>by
  obtain⟨w,S,τ,hr,sl,qq⟩:=h;refine⟨w,S,τ,hr,sl,(bV.az qq).mono λv H1 gD=>?_⟩
  obtain⟨w1,S1,t,cX,bH,r1,_,q1⟩:=gD;split at q1
  ·split at q1
   ·rename_i c' fs ei
    split at q1
    ·rename_i hc
     obtain⟨rfl,hm⟩:=hc;obtain⟨dx,xF,h1,h2⟩:=bH.cell _ _ (fL ei)
     refine⟨_,dx,xF,r1.cQ.2,h1,(iA (k:=m) h2).2 (zeh.mp hm),w1,S1,τ,bH,sl.mono cX,(bV.az q1).mono λvs H2 kC=>?_⟩
     obtain⟨w2,S2,ts,fj,dI,r2,_,q2⟩:=kC;split at q2
     ·rename_i hn
      rw[zax];refine⟨w2,S2,_,dI.swE,.cons (RT.mono fj _ _ r1) r2,hn,?_⟩
      rw[ox.K];refine Oa hC ((sl.mono cX).mono fj) q2 λa H' Cq=>?_
      obtain⟨w3,S3,en,jb,nH,hn3,ea,q3⟩:=Cq;subst ea;refine⟨w3,S3,τ,nH,(sl.mono cX).mono (fj.trans jb),?_⟩
      have q3:bV ⟨K,cl,E0⟩ w3 (yQ none (sh τ S3)) D:=q3
      generalize sh τ S3=z at q3 ⊢
      cases z with
      |nx oA S4=>exact q3
      |bk oA S4=>exact q3
      |ct oA S4=>exact q3
      |rt oA S4=>exact q3
      |ex oA S4=>exact q3.elim
      |ay=>exact q3
     ·exact q2.elim
    ·exact q1.elim
   ·exact q1.elim
  ·exact q1.elim
end
structure EC (K:W.Frag) (mg:Str->Option Value) (B:Addr) (x:Str) (C f:Addr) (st:Stmt) (fd:FuncData) (ps:List Str):Prop where
 M:sU K C f (.ref B::sS)
 m:mg x=some (.ref C)
 b:eW K fd ps []
 lk:∃(oc:Value) (od:Option Addr) (dV kV oO pm:Value) (an:Option Addr) (fG ct:Value) (E4:Array (Option Value)) (q:Str),
  fd=W.fnOf "__init__" q (d_ st) (cT st) (aj st) dV kV oO pm an fG ct/\K.lookup f=some ⟨oc,od,.func fd,E4⟩/\W.codeIn K fG q=true
structure acK (K:W.Frag) (mg:Str->Option Value) (B:Addr) (cs:List (Str×Addr×Addr)):Prop where
 m:mg "BookError"=some (.ref B)
 EB:WV K B
 Oc:(W.clsIn K B).isSome=true
 tyB:W.typeIn K (.ref B)=some (.type "type")
 oB:∃nm q N bs hd sn sub ab ua dd j0 j1 j2 j3 j5 pN,K.lookup B=some (excClassObj nm q B N bs sS hd sn sub ab ua dd j0 j1 j2 j3 j5 pN)
 sy:Sys K
 all:∀p∈cs,mg p.1=some (.ref p.2.1)/\sU K p.2.1 p.2.2 (.ref B::sS)
section
variable {P:Program}{w:World}{K:W.Frag}{mg:Str->Option Value}{base:Heap}{B:Addr}{cs:List (Str×Addr×Addr)}
theorem EC.ok {st:Stmt}(F:EC K mg B x C f st fd ps)(S:au N ps (aj st))(len:∀vs H Q E,sp vs H Q E->vs.length=ps.length)
  (tV:∀(q:Str) (fG:Value) (A:Around) (outer:List Env) (s:Shared) (H:Hp) (vs:List V) (Q:VK) (E:XK),gU k (A.deeper (PyProof.Rows.envOfC q (aj st) s.heap.objs.size f fG))->sp vs H Q E ->
   ∃t,yf (jC eO P w K mg base N q (aj st) f fG A outer s H E).Et (cT st) t/\t {nx:=λ_ H'=>Q .bq H',rt:=Q} (L2.cW N vs) H):aP P w K mg base eO (k+1) f fd ps sp:=by
 obtain⟨oc,od,dV,kV,oO,pm,an,fG,ct,E4,q,rfl,lk,BQ⟩:=F.lk;refine Mt lk BQ S len λA outer s H vs Q E hr LH=>?_
 obtain⟨t,h,z⟩:=tV q fG A outer s H vs Q E hr LH;exact⟨t,h.Et,z⟩
noncomputable def gE2 (g h:Str):List V->List (Str×V)|[_,y,z]=>[(g,y),(h,z)]|_=>[]
noncomputable def gT2 (g h:Str):List Tr->List (Str×Tr)|[_,y,z]=>[(g,y),(h,z)]|_=>[]
theorem gR2:∀w ts vs,bG w ts vs->ts.length=3->RK w (gT2 g h ts) (gE2 g h vs):=λw ts vs r hl=>by
 match ts,hl with
 |[a,b,c],_ =>
  obtain⟨x,r1,rfl,h1,h2⟩:=r.bA;obtain⟨y,r2,rfl,h3,h4⟩:=h2.bA;obtain⟨z,r3,rfl,h5,h6⟩:=h4.bA;rw[h6.b_];exact .cons h3 (.cons h5 .nil)
def acL (K:W.Frag)(B:Addr):Prop:=∃nm q N bs bm hd sn sub ab ua dd j0 j1 j2 j3 j5 pN,K.lookup B=some (excClassObj nm q B N bs bm hd sn sub ab ua dd j0 j1 j2 j3 j5 pN)/\bm.contains (.type "BaseException")=true
theorem acK.j8 (E:acK K mg B cs):acL K B:=by
 obtain⟨nm,q,N,bs,hd,sn,sub,ab,ua,dd,j0,j1,j2,j3,j5,pN,h⟩:=E.oB;exact⟨nm,q,N,bs,sS,hd,sn,sub,ab,ua,dd,j0,j1,j2,j3,j5,pN,h,by decide +kernel⟩
theorem sU.anK (M:sU K C f (.ref B::sS)):acL K C:=by
 obtain⟨nm,q,N,bs,sn,sub,ab,ua,dd,k0,k1,k2,k3,k5,h⟩:=M.j8;exact⟨nm,q,N,bs,_,true,sn,sub,ab,ua,dd,k0,k1,k2,k3,k5,_,h,by rw[zbK,show sS.contains (.type "BaseException")=true by decide +kernel,zdf]⟩
theorem Od:(Value.ref C::.ref B::sS).contains (.ref C)=true:=by simp[zbK]
end
section
variable {K:W.Frag}{cl:Str->Addr}{k j n:Nat}{X:Cx}{f B:Addr}{fd:FuncData}{ps:List Str}{q:Fn}{m cB nn c:Str}{p cp ap np ep hp pos:Pos}{e o:Expr}{es:List Expr}{fr:En->Cs->R (List Tr)}{fo:Em}{jK:List Stmt}{p_:Stmt}{sh:Sm}{l:Nat}{cs:List Str}
theorem Kp (hB:acL K B)(hC:sY ⟨K,cl,E0⟩ B cs)(hmB:X.mg cB=some (.ref B))
  (hc:wZ K (cl c)) (hM:dJ K (cl c) m f) (F:aP X.prog X.w X.K X.mg X.base (xA X.prog X.w) j f fd ps (dW K cl n q)) (hj:j<=k) (hb:eW X.K fd ps []) (ho:TV ⟨K,cl,E0⟩ k X.Et o fo) (ha:xH ⟨K,cl,E0⟩ k X.Et (e::es) fr)
  (hs:∀a,J_ ⟨K,cl,E0⟩ 0 (X.mU a).Et (p_::jK) sh) (AS:X.dc=X.env::X.outer:=by rfl) (JY:X.env.frame=some X.env.locals:=by rfl)
  (hgB:Gl X cB:=by rfl) (UN:(cB == ("__debug__":Str))=false:=by decide) (TR:swapsWith (.Call (.Attribute o m ap) (e::es) [] cp) none ep.line X.env=pure false:=by rfl)
  (om:dH e=false:=by rfl) (hpl:dD es=true:=by rfl)
  (ht:eval (.Call (.Attribute o m ap) (e::es) [] cp) X.env=(do
   let ov <-eval o X.env
   standAt ap.atName
   let (f,first) <-holding [ov] (getMethod ov m pl)
   callWith cp f first (backTo cp (starEach (e::es) X.env)) (backToKw cp (keywordEach [] X.env))):=by rfl) (EF:0<k:=by first|decide|omega):
  xJ ⟨K,cl,E0⟩ k X (.Try [.Expr (.Call (.Attribute o m ap) (e::es) [] cp) ep] [.ExceptHandler (some (.Name cB np)) none (p_::jK) hp] [] [] pos) (H_ c m n q fo fr cs none sh):=by
 obtain⟨_,_,_,_,_,_,_,_,_,_,_,_,_,_,_,_,_,h,hbB⟩:=hB;exact Ob h hbB hC hmB hc hM F hj hb ho ha hs AS JY hgB UN TR om hpl ht EF
end
noncomputable def kIf (a b:Sm)(τ:En):Bool->Cs->RS:=λx S=>if x=true then a τ S else b τ S
theorem aiP:kIf a b τ true S=a τ S:=rfl
theorem aiQ:kIf a b τ false S=b τ S:=rfl
theorem vIf:cH c a b τ S=(c τ S).bQ (kIf a b τ):=rfl
noncomputable def kRt:Tr->Cs->RS:=λt S=>.rt t S
theorem aiR:kRt t S = .rt t S:=rfl
theorem anM:aE f τ S=(f τ S).bQ kRt:=rfl
def kNx {α:Type}(τ:En):α -> Cs->RS:=λ_ S=>.nx τ S
theorem aiS {α:Type}{τ:En}{t:α}{S:Cs}:kNx τ t S = .nx τ S:=rfl
theorem aiT:fB f τ S=(f τ S).bQ (kNx τ):=rfl
def xT (i:Nat)(τ:En):Tr->Cs->RS:=λt S=>.nx (τ.set i (some t)) S
theorem anN:br i f τ S=(f τ S).bQ (xT i τ):=rfl
def kEn:En->Cs->RS:=λτ S=>.nx τ S
theorem aiU:kEn τ S = .nx τ S:=rfl
def aiV (b:Tr->En->Cs->R En)(τ:En):Tr->Cs->RS:=λt S=>(b t τ S).bQ kEn
theorem acM:aiV b τ t S=(b t τ S).bQ kEn:=rfl
theorem anP:Kd f b τ S=(f τ S).bQ (aiV b τ):=rfl
theorem aiW:aD τ S = .nx τ S:=rfl
theorem aiX:NW τ S = .ct τ S:=rfl
def FT (cs:List Str)(f:Str)(τ:En)(t:Tr):Tr->Cs->RS:=λu S=>(pW cs f u t S).bQ (kNx τ)
theorem Oe:FT cs f τ t u S=(pW cs f u t S).bQ (kNx τ):=rfl
def Xf (cs:List Str)(f:Str)(fo:Em)(τ:En):Tr->Cs->RS:=λt S=>(fo τ S).bQ (FT cs f τ t)
theorem UO:Xf cs f fo τ t S=(fo τ S).bQ (FT cs f τ t):=rfl
theorem aiY:cg cs f fo fv τ S=(fv τ S).bQ (Xf cs f fo τ):=rfl
noncomputable def kB:Tr->Cs->R Bool:=λt S=>match t with|.bl b=>.ok b S|_=>.ay
theorem anQ:kB (.bl b) S = .ok b S:=rfl
theorem vB:mB f τ S=(f τ S).az kB:=rfl
def CM (g:Tr->Tr->Cs->R Tr)(fb:Em)(τ:En):Tr->Cs->R Tr:=λt S=>(fb τ S).az (g t)
theorem acN:CM g fb τ t S=(fb τ S).az (g t):=rfl
theorem anR:ai g fa fb τ S=(fa τ S).az (CM g fb τ):=rfl
theorem vUn:T8 g fa τ S=(fa τ S).az g:=rfl
theorem vC:mC t τ S = .ok t S:=rfl
theorem aiZ:bN g fr τ S=(fr τ S).az g:=rfl
noncomputable def gH (t:Tr):List Tr->Cs->R (List Tr):=λts S=>.ok (t::ts) S
theorem Of:gH t ts S = .ok (t::ts) S:=rfl
def Og (r:En->Cs->R (List Tr))(τ:En):Tr->Cs->R (List Tr):=λt S=>(r τ S).az (gH t)
theorem UP:Og r τ t S=(r τ S).az (gH t):=rfl
theorem ai0:af f r τ S=(f τ S).az (Og r τ):=rfl
theorem anS:ak τ S = .ok [] S:=rfl
noncomputable def CN:List Tr->Cs->R Tr:=λts S=>if ts.length<=sizeLine then .ok (.tp ts) S else .ay
theorem anT:dm fr τ S=(fr τ S).az CN:=rfl
noncomputable def AV:List Tr->Cs->R Tr:=λts S=>if ts.length<=sizeLine then .ok (.ls ts) S else .ay
theorem anU:kD fr τ S=(fr τ S).az AV:=rfl
noncomputable def Oh:List Tr->Cs->R Tr:=λts S=>if ts.length<=sizeLine then .ok (.hd S.length) (S++[.bD ts]) else .ay
theorem ai1:rP fr τ S=(fr τ S).az Oh:=rfl
noncomputable def kFn (n:Nat)(q:Fn):List Tr->Cs->R Tr:=λts S=>if ts.length=n then q ts S else .ay
theorem vFn:dR n q fr τ S=(fr τ S).az (kFn n q):=rfl
noncomputable def uN (n:Nat)(q:Fn)(t:Tr):List Tr->Cs->R Tr:=λts S=>if (t::ts).length=n then q (t::ts) S else .ay
def Xg (c m:Str)(n:Nat)(q:Fn)(fr:En->Cs->R (List Tr))(τ:En):Tr->Cs->R Tr:=λt S1=>match t with
 |.hd i=>(match iT S1 i with
  |some (c',fs)=>if c'=c/\(aN m fs).isNone=true then (fr τ S1).az (uN n q t) else .ay
  |none=>.ay)
 |_=>.ay
theorem UQ:Xg c m n q fr τ (.hd i) S=match iT S i with
  |some (c',fs)=>if c'=c/\(aN m fs).isNone=true then (fr τ S).az (uN n q (.hd i)) else .ay
  |none=>.ay:=rfl
theorem ai2:aO c m n q fo fr τ S=(fo τ S).az (Xg c m n q fr τ):=rfl
noncomputable def uO (k:Nat):Tr->Cs->R Tr:=λr S=>match r with|.bq=>.ok (.hd k) S|_=>.ay
theorem Oi:uO k .bq S = .ok (.hd k) S:=rfl
def Ia (c:Str)(n:Nat)(q:Fn):List Tr->Cs->R Tr:=λts S1=>if ts.length+1=n then (q (.hd S1.length::ts) (S1++[.fH c []])).az (uO S1.length) else .ay
theorem ai3:yO c n q fr τ S=(fr τ S).az (Ia c n q):=by
 unfold yO Ia uO;rfl
theorem anV:bw cs f fo τ S=(fo τ S).az (Ke cs f):=rfl
noncomputable def acO (a b:Em)(τ:En):Bool->Cs->R Tr:=λx S=>if x=true then a τ S else b τ S
theorem acP:acO a b τ true S=a τ S:=rfl
theorem acQ:acO a b τ false S=b τ S:=rfl
theorem anW:BG c a b τ S=(c τ S).az (acO a b τ):=rfl
noncomputable def ai4:Tr->Cs->R Tr:=λt S=>match t with|.bl b=>.ok (.bl (!b)) S|_=>.ay
theorem acR:ai4 (.bl b) S = .ok (.bl (!b)) S:=rfl
theorem anY:Kc f τ S=(f τ S).az ai4:=rfl
noncomputable def acS (tb:En->Cs->R Bool)(τ:En):Bool->Cs->R Bool:=λx S=>if x=true then tb τ S else .ok false S
theorem acT:acS tb τ true S=tb τ S:=rfl
theorem acU:acS tb τ false S = .ok false S:=rfl
theorem anZ:nX ta tb τ S=(ta τ S).az (acS tb τ):=rfl
noncomputable def kOr (tb:En->Cs->R Bool)(τ:En):Bool->Cs->R Bool:=λx S=>if x=true then .ok true S else tb τ S
theorem ai5:kOr tb τ true S = .ok true S:=rfl
theorem ai6:kOr tb τ false S=tb τ S:=rfl
theorem vOr:Fw ta tb τ S=(ta τ S).az (kOr tb τ):=rfl
noncomputable def Xh:Bool->Cs->R Bool:=λx S=>.ok (!x) S
theorem UR:Xh x S = .ok (!x) S:=rfl
theorem ai7:xK ta τ S=(ta τ S).az Xh:=rfl
def Xi (fb:Em)(τ:En):Tr->Cs->R Tr:=λt S=>anG t (fb τ S) S
theorem US:Xi fb τ (.bl b) S=if b=true then fb τ S else .ok (.bl false) S:=by cases b<;>rfl
theorem ai8:lz fa fb τ S=(fa τ S).az (Xi fb τ):=rfl
def ai9 (fb:Em)(τ:En):Tr->Cs->R Tr:=λt S=>orV t (fb τ S) S
theorem acV:ai9 fb τ (.bl b) S=if b=true then .ok (.bl true) S else fb τ S:=by cases b<;>rfl
theorem an1:W6 fa fb τ S=(fa τ S).az (ai9 fb τ):=rfl
def aja (ck:Cs->Tr->Bool)(g:Tr->List Tr->Cs->R Tr)(fr:En->Cs->R (List Tr))(τ:En):Tr->Cs->R Tr:=λt S=>if ck S t=true then (fr τ S).az (g t) else .ay
theorem acW:aja ck g fr τ t S=if ck S t=true then (fr τ S).az (g t) else .ay:=rfl
theorem an2:xN ck g fo fr τ S=(fo τ S).az (aja ck g fr τ):=rfl
def ajb (b:Tr->En->Cs->R En)(f:Sm)(τ:En):yM->Cs->RS:=λs S=>jl s.iC b f s.items τ S
theorem acX:ajb b f τ s S=jl s.iC b f s.items τ S:=rfl
theorem an3:xP fi b f τ S=(fi τ S).bQ (ajb b f τ):=rfl
theorem vIt:qX g f τ S=(f τ S).az g:=rfl
def Oj (n:Nat)(q:Fn)(cs:List Str)(l:Option Nat)(sh:Sm)(τ:En)(t:Tr):List Tr->Cs->RS:=λts S=>if (t::ts).length=n then lH cs l sh τ (q (t::ts) S) else .ay
theorem UT:Oj n q cs l sh τ t ts S=if (t::ts).length=n then lH cs l sh τ (q (t::ts) S) else .ay:=rfl
def ajc (c m:Str)(n:Nat)(q:Fn)(fr:En->Cs->R (List Tr))(cs:List Str)(l:Option Nat)(sh:Sm)(τ:En):Tr->Cs->RS:=λt S1=>match t with
 |.hd i=>(match iT S1 i with
  |some (c',fs)=>if c'=c/\(aN m fs).isNone=true then (fr τ S1).bQ (Oj n q cs l sh τ t) else .ay
  |none=>.ay)
 |_=>.ay
theorem acY:ajc c m n q fr cs l sh τ (.hd i) S=match iT S i with
  |some (c',fs)=>if c'=c/\(aN m fs).isNone=true then (fr τ S).bQ (Oj n q cs l sh τ (.hd i)) else .ay
  |none=>.ay:=rfl
theorem an4:H_ c m n q fo fr cs l sh τ S=(fo τ S).bQ (ajc c m n q fr cs l sh τ):=rfl
theorem FU:lH cs l sh τ (.ok t S) = .nx τ S:=rfl
theorem Kq:lH cs l sh τ (.ex e S)=match CK S e with|some (c,_)=>if c∈cs then yQ l (sh (AU l (some (.hd e)) τ) S) else .ay|none=>.ay:=rfl
theorem UU:yQ l (.ct τ S) = .ct (AU l none τ) S:=rfl
theorem UW:yQ l (.rt t S) = .rt t S:=rfl
def RS.acZ (r:RS):R Tr:=match r with|.nx _ S'=>.ok .bq S' | .rt t S'=>.ok t S' | .ex n S'=>.ex n S' | _=>.ay
theorem UX (τ:En)(S:Cs):(RS.nx τ S).acZ = .ok .bq S:=rfl
theorem UY (t:Nat)(S:Cs):(RS.ex t S).acZ = .ex t S:=rfl
theorem ac0 (t:Nat)(S:Cs)(g:Sm):(RS.ex t S).seq g = .ex t S:=rfl
noncomputable def Ol (c:Str)(n:Nat)(gT:List Tr->List (Str×Tr))(HZ:List Tr):List Tr->Cs->RS:=λts S1=>if ts.length+HZ.length=n/\n<=1000 then .ex S1.length (S1++[.xD c (gT (ts++HZ))]) else .ay
theorem Om:Ol c n gT HZ ts S=if ts.length+HZ.length=n/\n<=1000 then .ex S.length (S++[.xD c (gT (ts++HZ))]) else .ay:=rfl
theorem ac1:AQ c n gT HZ fr τ S=(fr τ S).bQ (Ol c n gT HZ):=rfl
theorem ac2 (i j:Nat)(fr:En->Cs->R (List Tr))(τ:En)(S:Cs):ach i j fr τ S=((fr τ S).bQ λts S1=>match ts with|[t,u]=>.nx ((τ.set i (some t)).set j (some u)) S1|_=>.ay):=rfl
theorem UZ (cs:List Str)(f:Str)(g:Int->Int->Int)(fo fv:Em)(τ:En)(S:Cs):yL cs f g fo fv τ S=((fo τ S).bQ λt S1=>match t with
 |.hd n=>(match iT S1 n with
  |some (c,fs)=>if c∈cs then (match aN f fs with
   |some (.int i)=>(fv τ S1).bQ λy S2=>(match y with
    |.int j=>(match iT S2 n with|some (c',LG)=>if c'=c/\LG.length<1000 then .nx τ (S2.set n (.fH c (cy f (.int (g i j)) LG))) else .ay|none=>.ay)
    |_=>.ay)
   |_=>.ay) else .ay
  |none=>.ay)
 |_=>.ay):=rfl
theorem Oo (g g':Tr->Tr->Cs->R Tr)(fa fb fc:Em)(τ:En)(S:Cs):mW g g' fa fb fc τ S=((fa τ S).az λt1 S1=>(fb τ S1).az λt2 S2=>(g t1 t2 S2).az λz S3=>match z with
 |.bl true=>(fc τ S3).az λt3 S4=>g' t2 t3 S4
 |.bl false=>.ok (.bl false) S3
 |_=>.ay):=rfl
theorem ac3 (u:String)(fa:Em)(τ:En)(S:Cs):jE u fa τ S=((fa τ S).az λt S1=>match LR S1 t with|some ty=>(match nY ty u with|some b=>.ok (.bl b) S1|none=>.ay)|none=>.ay):=rfl
theorem U0 (fo fe ff:Em)(τ:En)(S:Cs):HQ fo fe ff τ S=((fo τ S).az λt S1=>if ckD S1 t=true then (fe τ S1).az λj S2=>(ff τ S2).az λu S3=>(match LN S3 t,iz j with|some m,some q=>.ok ((aN q m).getD u) S3|_,_=>.ay) else .ay):=rfl
theorem Oq  (u0:En) (S:Cs):FO  u0 S=(.ok (.hd S.length) (S++[.iy []])):=rfl
theorem U1 (ps:List (Em×Em))(τ:En)(S:Cs):HM ps τ S=((Kf ps τ (S++[.iy []])).az λl S1=>match pR S1 S.length with
 |some []=>if l.length<=15 then .ok (.hd S.length) (S1.set S.length (.iy (fm [] l))) else .ay
 |_=>.ay):=rfl
theorem ajd (g:Tr->Option Int->Option Int->Cs->R Tr)(fa:Em)(fl fh:En->Cs->R (Option Int))(τ:En)(S:Cs):mSl g fa fl fh τ S=((fa τ S).az λt S1=>(fl τ S1).az λlo S2=>(fh τ S2).az λhi S3=>g t lo hi S3):=rfl
theorem U3 (f:Em)(τ:En)(S:Cs):HC f τ S=((f τ S).az λt S1=>match t with|.int i=>.ok (some i) S1|_=>.ay):=rfl
theorem U4 (fo fi fv:Em)(τ:En)(S:Cs):oE fo fi fv τ S=((fv τ S).bQ λt S1=>(fo τ S1).bQ λu S2=>(fi τ S2).bQ λj S3=>(pV u j t S3).bQ λ_ S4=>.nx τ S4):=rfl
theorem U5 (n:Nat)(r:Bs)(t:Tr)(τ:En)(S:Cs):kH n r t τ S=(match R3 t with|some l=>if l.length=n then r l τ S else .ay|none=>.ay):=rfl
theorem U6 (n:Nat)(r:Bs)(t:Tr)(τ:En)(S:Cs):HH n r t τ S=(match w9 S t with|some l=>if l.length=n then r l τ S else .ay|none=>.ay):=rfl
theorem U7 (b:Tr->En->Cs->R En)(r:Bs)(ts:List Tr)(τ:En)(S:Cs):dw b r ts τ S=(match ts with|t::l=>(b t τ S).az λfq S1=>r l fq S1|[]=>.ay):=rfl
theorem ac4  (ts:List Tr) (τ:En) (S:Cs):pU  ts τ S=(match ts with|[]=>.ok τ S|_=>.ay):=rfl
theorem U8 (fr:En->Cs->R (List Tr))(τ:En)(S:Cs):yN fr τ S=((fr τ S).az λts S1=>match ts with
 |[.int j]=>xG (-(2 ^ 62)<=j/\j<2 ^ 62) (.ok ⟨sL 0 j.toNat,λ_=>True⟩ S1) .ay
 |_=>.ay):=rfl
theorem an5 (g:Int->Int->Tr)(t1:Tr)(t2:Tr)(S:Cs):gI g t1 t2 S=(match t1,t2 with
 |.int i,.int j=>.ok (g i j) S
 |_,_=>.ay):=rfl
theorem aje (c:Int->Int->Bool)(g:Int->Int->Tr)(t1:Tr)(t2:Tr)(S:Cs):LO c g t1 t2 S=(match t1,t2 with
 |.int i,.int j=>if c i j=true then .ok (g i j) S else .ay
 |_,_=>.ay):=rfl
theorem ac5  (t1:Tr) (t2:Tr) (S:Cs):fF  t1 t2 S=(match t1,t2 with
 |.int i,.int j=>.ok (.int (i+j)) S
 |.str a,.str b=>if a.length+b.length<=sizeLine then .ok (.str (a++b)) S else .ay
 |.tp a,.tp b=>if a.isEmpty=false/\a.length+b.length<=sizeLine then .ok (.tp (a++b)) S else .ay
 |t1,t2=>match Ez S t1,Ez S t2 with
  |some a,some b=>if a.length+b.length<=sizeLine then .ok (.ls (a++b)) S else .ay
  |_,_=>.ay):=rfl
theorem ac6  (t1:Tr) (t2:Tr) (S:Cs):sJ  t1 t2 S=(match t1,t2 with
 |.int i,.int j=>xG ((-(2 ^ 64)<i/\i<2 ^ 64)\/(-(2 ^ 64)<j/\j<2 ^ 64)) (.ok (.int (i * j)) S) .ay
 |.str a,.int n=>if 0<=n/\n<1000000/\a.length * n.toNat<=1000000 then .ok (.str (pL a n.toNat)) S else .ay
 |_,_=>.ay):=rfl
theorem Ot (neg:Bool)(a b:Str)(S:Cs):cC neg (.str a) (.str b) S = .ok (.bl (if neg=true then !decide (a=b) else decide (a=b))) S:=rfl
theorem Ou (neg:Bool)(a b:Int)(S:Cs):cC neg (.int a) (.int b) S = .ok (.bl (if neg=true then !decide (a=b) else decide (a=b))) S:=rfl
theorem Ov (neg:Bool)(a b:Bool)(S:Cs):cC neg (.bl a) (.bl b) S = .ok (.bl (if neg=true then !(a == b) else (a == b))) S:=rfl
theorem ac7 (neg:Bool)(a:Int)(S:Cs):cC neg (.int a) .bq S = .ok (.bl (if neg=true then !false else false)) S:=rfl
theorem ac8 (neg:Bool)(t1:Tr)(t2:Tr)(S:Cs):iY neg t1 t2 S=(match t2 with
 |.bq=>.ok (.bl (if neg then !isN t1 else isN t1)) S
 |_=>.ay):=rfl
theorem ajf (neg:Bool)(t1:Tr)(t2:Tr)(S:Cs):w_ neg t1 t2 S=(match t2 with
 |.str z=>(match t1 with|.str y=>.ok (.bl (if neg then !(!(Builtin.Str.occurrences z y 0 z.length 1).isEmpty) else !(Builtin.Str.occurrences z y 0 z.length 1).isEmpty)) S|_=>.ay)
 |t2=>match Cr S t2 with
  |some l=>if iU t1=true/\l.all iU=true then .ok (.bl (if neg then !LQ t1 l else LQ t1 l)) S else .ay
  |none=>.ay):=rfl
theorem ac9 (neg:Bool)(t1:Tr)(t2:Tr)(S:Cs):Cv neg t1 t2 S=(match LN S t2,iz t1 with
 |some m,some j=>.ok (.bl (if neg then !(aN j m).isSome else (aN j m).isSome)) S
 |_,_=>.ay):=rfl
theorem Ow  (t1:Tr) (t2:Tr) (S:Cs):bu  t1 t2 S=(match t1,t2 with
 |.str z,.int i=>if z.length<=sizeLine then (match jG z.cps.toList i with|some c=>.ok (.str ⟨#[c]⟩) S|none=>.ay) else .ay
 |t1,.int i=>(match Cr S t1 with
  |some l=>(match jG l i with|some t=>.ok t S|none=>.ay)
  |none=>.ay)
 |_,_=>.ay):=rfl
theorem ada  (t1:Tr) (t2:Tr) (S:Cs):qT  t1 t2 S=(match LN S t1,iz t2 with
 |some m,some j=>(match aN j m with|some t=>.ok t S|none=>.ay)
 |_,_=>.ay):=rfl
theorem adb  (ts:List Tr) (S:Cs):iB  ts S=(match ts with
 |[.str z]=>if z.length<=sizeLine then .ok (.int z.length) S else .ay
 |[t]=>(match Cr S t with|some l=>.ok (.int l.length) S|none=>match LN S t with|some m=>.ok (.int m.length) S|none=>.ay)
 |_=>.ay):=rfl
theorem U9  (ts:List Tr) (S:Cs):pT  ts S=(match ts with
 |[t]=>(match Cr S t with|some l=>.ok (.ls l) S|none=>.ay)
 |_=>.ay):=rfl
theorem ade  (ts:List Tr) (S:Cs):Cz  ts S=(match ts with
 |[t]=>(match w9 S t with|some l=>(match mY l with|some ns=>.ok (.int ns.sum) S|none=>.ay)|none=>.ay)
 |_=>.ay):=rfl
theorem adf  (t:Tr) (ts:List Tr) (S:Cs):CA  t ts S=(match t,ts with
 |.hd n,[u]=>(match cK S n with|some l=>if l.length<sizeLine then .ok .bq (S.set n (.bD (l++[u]))) else .ay|none=>.ay)
 |_,_=>.ay):=rfl
theorem adg  (t:Tr) (ts:List Tr) (S:Cs):Um  t ts S=(match t,ts with
 |.hd n,[u]=>(match cK S n,Ez S u with|some l,some m=>if l.length+m.length<=sizeLine then .ok .bq (S.set n (.bD (l++m))) else .ay|_,_=>.ay)
 |_,_=>.ay):=rfl
theorem U_  (u0:En) (S:Cs):iV  u0 S=(.ok true S):=rfl
theorem Va (fi:En->Cs->R yM)(fr:List Nat)(n:Nat)(b:Tr->En->Cs->R En)(c:En->Cs->R Bool)(f:Em)(τ:En)(S:Cs):fD fi fr n b c f τ S=((fi τ S).az λs S1=>(cV s.iC b c f s.items (iN fr n τ) [] S1).az λl S2=>.ok (.ls l) S2):=rfl
theorem Ox (fi:En->Cs->R yM)(fr:List Nat)(n:Nat)(b:Tr->En->Cs->R En)(c:En->Cs->R Bool)(f:Em)(τ:En)(S:Cs):FH fi fr n b c f τ S=((fi τ S).az λs S1=>(cV s.iC b c f s.items (iN fr n τ) [] S1).az λl S2=>.ok (.hd S2.length) (S2++[.bD l])):=rfl
theorem an6  (t:Tr) (S:Cs):iL  t S=(match t with
 |.ls l=>.ok ⟨l,λ_=>True⟩ S
 |.kl l=>.ok ⟨l,λ_=>True⟩ S
 |.hd n=>(match cK S n with|some l=>.ok ⟨l,λS'=>cK S' n=some l⟩ S|none=>.ay)
 |_=>.ay):=rfl
theorem adh  (t:Tr) (S:Cs):Az  t S=(match t with|.int i=>.ok (.int (-i)) S|_=>.ay):=rfl
section
variable {prog:Program}{w:World}{A:Around}{E:Value->Shared->Prop}{s:Shared}{Z TI TO i1 i2:Addr}{BF Eu:List Addr}{n1 n2 k:Nat}{Y1 Y2:Nat->Value->Prop}{S1 S2:Nat->Heap->Prop}{p q:Value}
theorem Kr {Q:Fin->Shared->Prop}(D1:Draws prog w A i1 BF n1 Y1 S1)(D2:Draws prog w A i2 Eu n2 Y2 S2)(N:uc Z TI TO i1 i2 BF Eu)(zZ:IsZip s.heap Z TI TO .none)(zI:IsPair s.heap TI (.ref i1) (.ref i2))(zO:IsPair s.heap TO p q)
  (s1:S1 k s.heap) (s2:S2 n2 s.heap) (l1:k<n1)
  (kk:∀h' tk x,(∀c o,c≠Z->c≠TO->c≠i1->c≠i2->s.heap.get? c=some o->h'.get? c=some o)->(∃o,h'.get? x=some o/\o.cls = .type "StopIteration")->E (.ref x) {s with heap:=h',toks:=tk}):
  wpAny (model prog w) A (Builtin.«zip.__next__» ⟨[.ref Z],[]⟩) Q E s:=by
 obtain⟨hp,g,d,tk0,os⟩:=s;show wpAny _ _ (field (.ref Z) 2 >>= _) _ _ _
 refine zaa (zay zZ rfl (x:=.bool false) rfl ?_)
 show wpAny _ _ (field (.ref Z) 3 >>= _) _ _ _
 refine zaa (zay zZ rfl (x:=.ref TI) rfl (zaa (zbq zI rfl ?_)))
 show wpAny _ _ (Builtin.SmallTypes.ownedTupleIsFree (.ref Z) >>= _) _ _ _
 refine zaa ?_
 unfold Builtin.SmallTypes.ownedTupleIsFree;refine zaa (zay zZ rfl (x:=.none) rfl (zac ?_))
 simp only[if_true];refine zaa (zcA (zaa (zay zZ rfl (x:=.ref TO) rfl ?_)))
 refine zaa (zbL zZ (by simp) λg1 M8 b1=>?_)
 replace M8:IsZip g1 Z TI TO .ellipsis:=M8
 replace b1:Heap.SameBut Z hp g1:=b1
 refine zaa ?_
 simp only[List.zipIdx_cons,List.zipIdx_nil,List.forIn_cons,List.forIn_nil];-- yc first
 refine zaa (zaa (zdr ?_))
 show wpAny _ _ (Builtin.SmallTypes.nextOf (.ref i1) >>= _) _ _ _
 refine zaa (D1.item k _ _ _ l1 (D1.frame _ _ _ s1 λb hb o e=>b1.extBut b o (λz=>N.b1 (z ▸ hb)) e) λx g2 t2 y1 s12 b2=>zac ?_)
 replace b2:Heap.SameBut i1 g1 g2:=b2
 have zO2:IsPair g2 TO p q:=b2.extBut _ _ N.a6 (b1.extBut _ _ N.a2 zO)
 refine zaa (zbq zO2 rfl (zaa (zdC zO2 λg3 zO3 b3=>?_)))
 replace zO3:IsPair g3 TO x q:=zO3
 replace b3:Heap.SameBut TO g2 g3:=b3
 refine zaa (zeP (zac ?_))
 -- yc abE
 refine zaa (zaa (zdr ?_))
 show wpAny _ _ (Builtin.SmallTypes.nextOf (.ref i2) >>= _) _ _ _
 refine zaa (D2.done _ _ _ (D2.frame _ _ _ s2 λb hb o e=>b3.extBut b o (λz=>N.c2 (z ▸ hb)) (b2.extBut b o (λz=>N.c3 (z ▸ hb)) (b1.extBut b o (λz=>N.c1 (z ▸ hb)) e))) λg4 x2 b4 hx=>?_)
 replace b4:Heap.ExtBut i2 g3 g4:=b4
 obtain⟨ox,ex,cx⟩:=hx;have zZ2:IsZip g4 Z TI TO .ellipsis:=b4 _ _ N.a10.symm (b3.extBut _ _ N.a2.symm (b2.extBut _ _ N.a9.symm M8))
 have xZ:x2≠Z:=λz=>by
  subst z;rw[zZ2] at ex;cases ex;simp at cx
 exact zbL zZ2 (by simp) λg5 _ b5=>kk g5 _ x2 (λc o m1 m2 m3 m4 e=>b5.extBut _ _ m1 (b4 _ _ m4 (b3.extBut _ _ m2 (b2.extBut _ _ m3 (b1.extBut _ _ m1 e))))) ⟨ox,b5.extBut _ _ xZ ex,cx⟩
theorem FW {Q:Option Value->Shared->Prop}(D1:Draws prog w A.in1 i1 BF n1 Y1 S1)(D2:Draws prog w A.in1 i2 Eu n2 Y2 S2)(N:uc Z TI TO i1 i2 BF Eu)(zZ:IsZip s.heap Z TI TO .none)(zI:IsPair s.heap TI (.ref i1) (.ref i2))(zO:IsPair s.heap TO p q)
  (s1:S1 k s.heap) (s2:S2 n2 s.heap) (l1:k<n1)
  (kk:∀h' tk,(∀c o,c≠Z->c≠TO->c≠i1->c≠i2->s.heap.get? c=some o->h'.get? c=some o)->Q none {s with heap:=h',toks:=tk}):wpAny (model prog w) A (pyNext (.ref Z)) Q E s:=by
 have zT:s.TypeIs (.ref Z) "zip" := ⟨_,zZ,rfl⟩
 unfold pyNext;refine zaa (zcz (zaH (name:=Str.ofString "__next__") zT zcE (zaF zcE zT zes (Kr D1 D2 N zZ zI zO s1 s2 l1 λh' tk x up hx=>?_) (zea _))))
 obtain⟨ox,ex,cx⟩:=hx;exact zaa (zcP (T:= "StopIteration") (b:=true) ⟨ox,ex,cx⟩ zdM (zac (kk _ _ up)))
end
def adi (K:W.Frag)(ud yD:Bool)(a b:Addr):It:=
 ⟨(Itz K ud yD a b).go,(Itz K ud yD a b).yld,λi H=>(∃xs,Ca K ud H a xs/\xs.length=i)\/∃xs ys,Ca K ud H a xs/\i<xs.length/\Ca K yD H b ys/\ys.length=i⟩
theorem Ks {P:Program}{w:World}{K:W.Frag}{elts:List Expr}{x1}{pos:Pos}(ud yD:Bool)(a b n:Nat)(ha:a<n)(hb:b<n):
  JB P w K (.Tuple elts x1 pos) (adi K ud yD a b) [(n+4:Nat),(n+2:Nat),(n+3:Nat),n,(n+1:Nat)] (n+4:Nat)
   (λi h=>IsZip h (n+4:Nat) (n+2:Nat) (n+3:Nat) .none/\IsPair h (n+2:Nat) (.ref n) (.ref (n+1:Nat))/\(∃p q,IsPair h (n+3:Nat) p q)/\mT ud h n a i/\mT yD h (n+1:Nat) b i) where
 mem:=(ko (P:=P) (w:=w) (K:=K) (elts:=elts) (x1:=x1) (pos:=pos) ud yD a b n ha hb).mem
 j8:=(ko (P:=P) (w:=w) (K:=K) (elts:=elts) (x1:=x1) (pos:=pos) ud yD a b n ha hb).j8
 keep:=(ko (P:=P) (w:=w) (K:=K) (elts:=elts) (x1:=x1) (pos:=pos) ud yD a b n ha hb).keep
 item:=(ko (P:=P) (w:=w) (K:=K) (elts:=elts) (x1:=x1) (pos:=pos) ud yD a b n ha hb).item
 self:=(ko (P:=P) (w:=w) (K:=K) (elts:=elts) (x1:=x1) (pos:=pos) ud yD a b n ha hb).self
 done:=by
  intro X hP hw hK hc i ah s σ H E I hf t hg;rcases hg with hg|⟨xs,ys,hxs,jD,hys,hy⟩
  ·exact (ko (P:=P) (w:=w) (K:=K) (elts:=elts) (x1:=x1) (pos:=pos) ud yD a b n ha hb).done X hP hw hK hc i ah s σ H E I hf t hg
  subst hP hw hK;obtain⟨zZ,zI,⟨p,q,zO⟩,t1,t2⟩:=t
  obtain⟨aJ,rv,so,_⟩:=I.src hxs;obtain⟨RU,z9,so',_⟩:=I.src hys;have hh:X.A.in1.handled=none:=I.ok.hd hc
  have D1:=kj (P:=X.prog) (w:=X.w) (A:=X.A.in1) hh ud n a (LK ha) aJ.toArray
  have D2:=kj (P:=X.prog) (w:=X.w) (A:=X.A.in1) hh yD (n+1:Nat) b (LK (by omega)) RU.toArray
  have N:=ue ha hb;have l1:i<aJ.toArray.size:=by
   have:=rv.length
   simp
   omega
  have hn:RU.toArray.size=i:=by
   have:=z9.length
   simp
   omega
  exact FW D1 D2 N zZ zI zO ⟨t1,so⟩ (by rw[hn];exact⟨t2,so'⟩) l1 λh' tk up=>⟨rfl,I.Ar (fp:=[(n+4:Nat),(n+2:Nat),(n+3:Nat),n,(n+1:Nat)]) (t':=tk) (λc o hc e=>up c o (λz=>hc (by simp[z])) (λz=>hc (by simp[z])) (λz=>hc (by simp[z])) (λz=>hc (by simp[z])) e) hf⟩
def Xj (K:W.Frag)(ta:TA):TI:=λσ H R=>ta σ H λvs H1=>∃ κ a b xs ys,vs=[.ref a,.ref b]/\Ca K κ H1 a xs/\Ca K κ H1 b ys/\R (adi K κ κ a b) H1
theorem Vb {a b:Expr}{ta:TA}{p pos tp:Pos}{elts:List Expr}{x1}(hg:Gl X "zip")(hm:X.mg "zip"=none)(ha:PA X [a,b] ta)(hs:starEach [a,b] X.env=[(false,eval a X.env),(false,eval b X.env)]:=by rfl)(LF:starEach [b] X.env=[(false,eval b X.env)]:=by rfl):
  PI X (.Tuple elts x1 tp) (.Call (.Name "zip" p) [a,b] [] pos) (Xj X.K ta):=by
 intro ah s σ H R I h;refine Call_ (tM I hg hm Na (zcN (cP (ha pos ah s σ H _ I h) λus s1 bU=>?_) (by rw[hs,LF]) (by rw[LF];rfl)))
 obtain⟨vs,H1,I1,r1,κ,l,m,xs,ys,ev,hl,hm',q⟩:=bU;subst ev;obtain⟨u1,u2,rfl,ru1,ru2⟩:=r1.two;cases (show u1=Value.ref l from ru1)
 cases (show u2=Value.ref m from ru2)
 obtain⟨aJ,_,so,_⟩:=I1.src hl;obtain⟨RU,_,so',_⟩:=I1.src hm';obtain⟨s4,zZ,zI,zO,e1,e2,up⟩:=M_ s1.heap (gX κ l) (gX κ m) ug ug
 refine callType_new F.called_zip (by decide) (F.typeCall_zip_2 _ _) (F.newCall_zip_2 _ _) (λj8=>F.args_object_init_3 j8 _ _) F.entry_zip_new (JX κ l m aJ.toArray RU.toArray) ⟨so,so',?_⟩
 show _/\_
 rw[s4];refine⟨⟨_,zZ,rfl⟩,wpAny_pyIter_zip (s:={s1 with heap:=Ex s1.heap (gX κ l) (gX κ m)}) zZ ?_⟩
 refine⟨_,_,_,adi X.K κ κ l m,H1,rfl,I1.eU (t':=s1.toks) up,Ks κ κ l m s1.heap.objs.size so.lt so'.lt,⟨zZ,zI,⟨_,_,zO⟩,Cb e1,Cb e2⟩,λc hc=>?_,q⟩
 have ge:s1.heap.objs.size<=c:=by
  simp only[zam,zav,or_false] at hc;rcases hc with rfl|rfl|rfl|rfl|rfl
  ·exact zbw _ _
  ·exact zbw _ _
  ·exact zbw _ _
  ·exact zaf _
  ·exact zbw _ _
 exact I1.L_ ge (I1.bZ.fresh ge)
section
variable {G:Gx}{k:Nat}{X:Cx}{a b c o e tg:Expr}{es:List Expr}{fa fb f:Em}{fr:En->Cs->R (List Tr)}{pos p:Pos}
noncomputable def oX (l m:List Tr):List Tr:=(l.zip m).map λp=>Tr.tp [p.1,p.2]
theorem qa {l m:List Tr}{i:Nat}{t:Tr}(h:(oX l m)[i]? = some t):∃u v,l[i]? = some u/\m[i]? = some v/\t = .tp [u,v]:=by
 unfold oX at h;rw[zar] at h;cases e:(l.zip m)[i]? with
 |none=>rw[e] at h;cases h
 |some p =>
  rw[e] at h;cases h;obtain⟨u,j⟩:=p;rw[List.getElem?_zip_eq_some] at e;exact⟨u,j,e.1,e.2,rfl⟩
end
theorem AW {α:Type}(x:α):(some (some x)).join=some x:=rfl
def adj:List Tr->Cs->R yM:=λts S1=>match ts with
 |[t,u]=>(iL t S1).az λs S2=>(iL u S2).az λs' S3=>.ok ⟨oX s.items s'.items,λS=>s.iC S/\s'.iC S⟩ S3
 |_=>.ay
theorem Oz {t u:Tr}{S:Cs}:adj [t,u] S=(iL t S).az λs S2=>(iL u S2).az λs' S3=>.ok ⟨oX s.items s'.items,λS=>s.iC S/\s'.iC S⟩ S3:=rfl
theorem jc {iC:Cs->Prop}{b:Tr->En->Cs->R En}{f:Sm}{l:List Tr}{τ:En}{S:Cs}{Z:RS}(e:jl iC b f l τ S=Z)(I:Nat->En->Cs->Prop)(hc:∀i τ S,I i τ S->iC S)(h0:I 0 τ S)(hs:∀i t τ S,l[i]? = some t->I i τ S->∃oA S2,((b t τ S).bQ f = .nx oA S2\/(b t τ S).bQ f = .ct oA S2)/\I (i+1) oA S2):∃qY S',I l.length qY S'/\Z = .nx qY S':=by
 have key:∀(l:List Tr) (n:Nat) (τ:En) (S:Cs),(∀i t τ S,l[i]? = some t->I (n+i) τ S->∃oA S2,((b t τ S).bQ f = .nx oA S2\/(b t τ S).bQ f = .ct oA S2)/\I (n+i+1) oA S2)->I n τ S->∃qY S',I (n+l.length) qY S'/\jl iC b f l τ S = .nx qY S':=by
  intro l;induction l with
  |nil=>intro n τ S h h0;exact⟨τ,S,h0,by unfold jl;rw[if_pos (hc n τ S h0)]⟩
  |cons t r ih =>
   intro n τ S h h0;obtain⟨oA,S2,e,h2⟩:=h 0 t τ S rfl h0;obtain⟨τ3,S3,h3,e3⟩:=ih (n+1) oA S2 (λi u τ S hu hI=>by
    have:=h (i+1) u τ S (by simpa using hu) (by rw[show n+(i+1)=n+1+i by omega];exact hI)
    rw[show n+(i+1)+1=n+1+i+1 by omega] at this
    exact this) h2
   refine⟨τ3,S3,by rw[zas,show n+(r.length+1)=n+1+r.length by omega];exact h3,?_⟩
   conv=>lhs;unfold jl
   rw[if_pos (hc n τ S h0)];cases hb:b t τ S with
   |ok fq S1 =>
    rw[hb,R.gE] at e;rw[R.gE];rcases e with e|e
    ·rw[e,Xc,e3]
    ·rw[e,aiH,e3]
   |ex n S1=>rw[hb,R.T7] at e;rcases e with e|e<;>cases e
   |ay=>rw[hb,R.Cj] at e;rcases e with e|e<;>cases e
 obtain⟨qY,S',h,e2⟩:=key l 0 τ S (λi t τ S ht hI=>by rw[zde] at hI ⊢;exact hs i t τ S ht hI) h0
 rw[zde] at h;exact⟨qY,S',h,by rw[<-e,e2]⟩
theorem yR {iC:Cs->Prop}{b:Tr->En->Cs->R En}{f:Em}(I:Nat->En->List Tr->Cs->Prop)(hc:∀i τ bO S,I i τ bO S->iC S):∀(l:List Tr) (n:Nat) (τ:En) (bO:List Tr) (S:Cs),
  (∀i t τ bO S,l[i]? = some t->I (n+i) τ bO S->∃fq u S3,b t τ S = .ok fq S/\f fq S = .ok u S3/\I (n+i+1) fq (bO++[u]) S3)->bO.length+l.length<=1000000->I n τ bO S->∃qY AX S',I (n+l.length) qY AX S'/\cV iC b iV f l τ bO S = .ok AX S'
 |[],n,τ,bO,S,h,hl,h0=>⟨τ,bO,S,h0,uM (hc n τ bO S h0)⟩
 |t::r,n,τ,bO,S,h,hl,h0=>by
  obtain⟨fq,u,S3,e1,e2,h2⟩:=h 0 t τ bO S rfl h0;have An:bO.length+1+r.length<=1000000:=by simp at hl;omega
  obtain⟨τ3,an8,S4,h3,e3⟩:=yR I hc r (n+1) fq (bO++[u]) S3 (λi u τ bO S hu hI=>by
   have:=h (i+1) u τ bO S (by simpa using hu) (by rw[show n+(i+1)=n+1+i by omega];exact hI)
   rw[show n+(i+1)+1=n+1+i+1 by omega] at this
   exact this) (by simp;omega) h2
  refine⟨τ3,an8,S4,by rw[zas,show n+(r.length+1)=n+1+r.length by omega];exact h3,?_⟩
  rw[rT (hc n τ bO S h0),e1,ia,R.dY];show (jA (R.ok true S)).az _=_
  rw[ia,R.dY,if_pos rfl,e2,ia,R.dY,if_pos (zap (by omega:bO.length<1000000) (by decide)),e3]
theorem yS {iC:Cs->Prop}{b:Tr->En->Cs->R En}{f:Em}{l:List Tr}{τ:En}{S:Cs}{Z:R (List Tr)}(e:cV iC b iV f l τ [] S=Z)(I:Nat->En->List Tr->Cs->Prop)(hc:∀i τ bO S,I i τ bO S->iC S)(h0:I 0 τ [] S)(hl:l.length<=1000000)
  (hs:∀i t τ bO S,l[i]? = some t->I i τ bO S->∃fq u S3,b t τ S = .ok fq S/\f fq S = .ok u S3/\I (i+1) fq (bO++[u]) S3):∃qY AX S',I l.length qY AX S'/\Z = .ok AX S':=by
 obtain⟨qY,AX,S',h,e2⟩:=yR I hc l 0 τ [] S (λi t τ bO S ht hI=>by rw[zde] at hI ⊢;exact hs i t τ bO S ht hI) (by simpa using hl) h0
 rw[zde] at h;exact⟨qY,AX,S',h,by rw[<-e,e2]⟩
def ni (S S':Cs):Prop:=∃J,S'=S++J
theorem ni.refl (S:Cs):ni S S:=⟨[],by simp⟩
theorem ni.trans {S S1 S2:Cs}(h:ni S S1)(g:ni S1 S2):ni S S2:=by
 obtain⟨J,rfl⟩:=h;obtain⟨J2,rfl⟩:=g;exact⟨J++J2,by simp⟩
theorem ni.sI {S S':Cs}(h:ni S S')(X:Cs):ni S (S'++X):=h.trans ⟨X,rfl⟩
theorem ni.get {S S':Cs}(h:ni S S'){i:Nat}{c:Ce}(e:S[i]? = some c):S'[i]? = some c:=by
 obtain⟨J,rfl⟩:=h;rw[zal (zae.mp e).1];exact e
theorem AY {S:Cs}{i:Nat}{c:Ce}(e:S[i]? = some c)(X:Cs):(S++X)[i]? = some c:=(ni.sI (ni.refl S) X).get e
theorem FY {S:Cs}{i:Nat}{c:Ce}(e:S[i]? = some c):i<S.length:=(zae.mp e).1
theorem FZ {S:Cs}{i j:Nat}{c d:Ce}(e:S[i]? = some c)(h:j≠i):(S.set j d)[i]? = some c:=by rw[zaK h];exact e
theorem uP {S:Cs}{i:Nat}{d:Ce}(h:i<S.length):(S.set i d)[i]? = some d:=zaM h
end L2
namespace L2
open PySem PySem.Spec PyProof.Rows
section
variable {K:W.Frag}{cl:Str->Addr}{k j0 n:Nat}{X:Cx}{g B:Addr}{fd:FuncData}{ps:List Str}{q:Fn}{x y nn fn cB:Str}{xp p cp ap np yp np2 bp hp pos:Pos}{e:Expr}{es:List Expr}{fr:En->Cs->R (List Tr)}{i j l:Nat}{cs:List Str}
 {RX q':Str} {N':Addr} {RY:List Value} {ow:Bool} {RZ:List Str} {xB:List Value} {R0:Bool} {xC:Option Bool} {BE:Option Addr} {j1 j2 j3 j4 j5:Option Value} {jT:String}
end
def ajg (K:W.Frag)(neg:Bool):R2:=λx y H Q=>∃a b xs ys,x = .ref a/\y = .ref b/\jy K H a xs/\jy K H b ys/\xs.length≠ys.length/\Q (.bl neg) H
theorem OA (hu:X.A.units<cLine):kU X (compareOp .Eq) (ajg X.K false):=by
 intro ah s σ H x y v u Q I rx ry h;obtain⟨a,b,xs,ys,rfl,rfl,hp,hq,hn,k⟩:=h;cases rx;cases ry;obtain⟨aJ,r1,p1,_⟩:=I.list hp;obtain⟨fZ,r2,p2,_⟩:=I.list hq;have l1:=r1.length;have l2:=r2.length;exact SeqAt.eq_list_lengthsAt p1.isList p2.isList (by simp;omega) hu ⟨.bl false,H,I,rfl,k⟩
theorem OB (hu:X.A.units<cLine):kU X (compareOp .NotEq) (ajg X.K true):=by
 intro ah s σ H x y v u Q I rx ry h;obtain⟨a,b,xs,ys,rfl,rfl,hp,hq,hn,k⟩:=h;cases rx;cases ry;obtain⟨aJ,r1,p1,_⟩:=I.list hp;obtain⟨fZ,r2,p2,_⟩:=I.list hq;have l1:=r1.length;have l2:=r2.length;have h:=SeqAt.RcNeAt.lists_lengths p1.isList p2.isList (by simp;omega) (show X.A.units<cLine from hu)
 exact h X.prog X.w _ _ ⟨.bl true,H,I,rfl,k⟩
def CO (neg:Bool):Tr->Tr->Cs->R Tr:=λt1 t2 S=>match w9 S t1,w9 S t2 with
 |some l,some m=>if l.length=m.length then cC neg t1 t2 S else .ok (.bl neg) S
 |_,_=>.ay
theorem adk {neg:Bool}:oz G k (compareOp (if neg then .NotEq else .Eq)) (CO neg):=.mk<|λX o ah s σ H x y v u Q I rx ry dh=>by
 obtain⟨w,S,t1,t2,hr,r1,r2,q⟩:=dh;unfold CO at q;split at q
 ·rename_i l m e1 e2
  split at q
  ·exact (NP (G:=G) (k:=k) (neg:=neg)).kY X o ah s σ H x y v u Q I rx ry ⟨w,S,t1,t2,hr,r1,r2,q⟩
  ·rename_i hn
   obtain⟨a,xs,ea,sx,rx'⟩:=ji hr r1 e1;obtain⟨b,ys,eb,sy,ry'⟩:=ji hr r2 e2;rw[<-o.K] at sx sy;have q:=q w H _ (.refl w) hr gF
   have hl:xs.length≠ys.length:=by rw[rx'.len,ry'.len];exact hn
   cases neg with
   |true=>exact OB (zdi (zbw _ _) o.hu) ah s σ H x y v u Q I rx ry ⟨a,b,xs,ys,ea,eb,sx,sy,hl,q⟩
   |false=>exact OA (zdi (zbw _ _) o.hu) ah s σ H x y v u Q I rx ry ⟨a,b,xs,ys,ea,eb,sx,sy,hl,q⟩
 ·exact q.elim
theorem ajh:oz G k (compareOp .Eq) (CO false):=adk (neg:=false)
def OC:Tr->Tr->Cs->R Tr:=λt1 t2 S=>match Ez S t1,t2 with
 |some l,.int n=>if 0<=n/\n<1000000/\l.length * n.toNat<=1000000 then .ok (.ls (List.replicate n.toNat l).flatten) S else .ay
 |_,_=>.ay
theorem bG.rep {w:Wd}{l:List Tr}{xs:List V}(h:bG w l xs):∀n:Nat,bG w (List.replicate n l).flatten (List.replicate n xs).flatten
 |0=>.nil
 |n+1=>by
  rw[zaD,zaD,zcl,zcl];exact h.sI (bG.rep h n)
theorem aji:oz G k (binaryOp .Mult) OC:=.mk<|λX o ah s σ H x y v u Q I rx ry eZ=>by
 obtain⟨w,S,t1,t2,hr,r1,r2,q⟩:=eZ;unfold OC at q;split at q
 ·rename_i l n e1
  split at q
  ·rename_i h
   obtain⟨a,xs,ea,sx,rx'⟩:=oS hr r1 e1;have hm:(1000000:Nat)<=sizeLine:=by decide
   exact abk ah s σ H x y v u Q I rx ry ⟨a,_,xs,ea,aK r2,sx,by omega,by omega,by rw[rx'.len];omega,hr.jh (rx'.rep _) rfl q⟩
  ·exact q.elim
 ·exact q.elim
def rV:List Tr->Cs->R yM:=λts S1=>match ts with
 |[t,u]=>(match R3 t,R3 u with
  |some l,some m=>.ok ⟨oX l m,λ_=>True⟩ S1
  |_,_=>adj [t,u] S1)
 |_=>.ay
def rW (fr:En->Cs->R (List Tr)):En->Cs->R yM:=λτ S=>(fr τ S).az rV
section
variable {G:Gx}{k:Nat}{X:Cx}{a b c o e tg:Expr}{es:List Expr}{fa fb f:Em}{fr:En->Cs->R (List Tr)}{pos p:Pos}
theorem Vc (hK:X.K=G.K){σ:St}{H:Hp}{Q:It->Hp->Prop}(h:Uu G (rW fr) σ H Q):Xj X.K (Ft G fr) σ H Q:=by
 obtain⟨w,S,τ,hr,sl,q⟩:=h;refine⟨w,S,τ,hr,sl,(aZ.az q).mono λxs H1 bU=>?_⟩
 obtain⟨w1,S1,ts,cX,bH,r1,_,q1⟩:=bU;unfold rV at q1;split at q1
 ·rename_i t u _
  split at q1
  ·rename_i l l' e1 e2
   obtain⟨x,y,rfl,rx,ry⟩:=sV r1;obtain⟨p,xs,rfl,sq,R⟩:=jj bH rx e1;obtain⟨p',xs',rfl,sq',R'⟩:=jj bH ry e2;refine⟨true,p,p',xs,xs',rfl,by rw[hK];exact sq,by rw[hK];exact sq',q1 w1 H1 _ (.refl _) bH λw2 S2 H2 i hK2 hn iS hF dI hc=>?_⟩
   obtain⟨p2,ys,ep,sq2,R2⟩:=jj dI (rx.uF hK2 hn iS hF) e1
   cases ep;obtain⟨p2',Vd,ep',adl,R2'⟩:=jj dI (ry.uF hK2 hn iS hF) e2
   cases ep';have Ve:Ca X.K true H2 p ys:=by rw[hK];exact sq2
   have F0:Ca X.K true H2 p' Vd:=by rw[hK];exact adl
   refine⟨λt et=>?_,λhi=>?_⟩
   ·obtain⟨u1,u2,eu1,eu2,rfl⟩:=qa et
    obtain⟨v1,ev1,rv1⟩:=R2.get eu1;obtain⟨v2,ev2,rv2⟩:=R2'.get eu2;refine⟨⟨ys,Vd,v1,v2,Ve,F0,ev1,ev2⟩,λy H3 dh=>?_⟩
    obtain⟨T,z1,z2,hT,ey,eH,hz1,hz2⟩:=dh;have h1:=hz1 ys Ve;have h2:=hz2 Vd F0;rw[ev1] at h1;rw[ev2] at h2;cases h1;cases h2;subst ey;subst eH;obtain⟨h3,jb⟩:=dI.W2 hT (.gn [v1,v2])
    refine⟨_,jb,h3,?_⟩
    unfold RT;exact⟨T,_,rfl,aq,.cons (RT.mono jb _ _ rv1) (.cons (RT.mono jb _ _ rv2) .nil)⟩
   ·have hi:i=(oX l l').length:=hi
    have hz:(oX l l').length=min l.length l'.length:=by simp[oX]
    rw[hz] at hi;by_cases hl:l.length<=l'.length
    ·exact .inl ⟨ys,Ve,by rw[R2.len,hi];omega⟩
    ·exact .inr ⟨ys,Vd,Ve,by rw[R2.len,hi];omega,F0,by rw[R2'.len,hi];omega⟩
  ·rw[Oz] at q1
   obtain⟨x,y,rfl,rx,ry⟩:=sV r1;cases e:iL t S1 with
   |ok s S2 =>
    rw[e] at q1;obtain⟨rfl,p,l,rfl,⟨xs,sq,_⟩,ei,sD⟩:=AF bH rx e
    rw[R.dY] at q1;cases e':iL u S2 with
    |ok s' S3 =>
     rw[e',R.dY] at q1;obtain⟨rfl,p',l',rfl,⟨xs',sq',_⟩,ei',ajn⟩:=AF bH ry e'
     refine⟨false,p,p',xs,xs',rfl,by rw[hK];exact sq,by rw[hK];exact sq',q1 w1 H1 _ (.refl _) bH λw2 S2 H2 i hK2 hn iS hF dI hc=>?_⟩
     obtain⟨ys,sq2,R2⟩:=sD w2 S2 H2 hK2 hn iS hF dI hc.1;obtain⟨Vd,adl,R2'⟩:=ajn w2 S2 H2 hK2 hn iS hF dI hc.2;have Ve:Ca X.K false H2 p ys:=by rw[hK];exact sq2
     have F0:Ca X.K false H2 p' Vd:=by rw[hK];exact adl
     refine⟨λt et=>?_,λhi=>?_⟩
     ·obtain⟨u1,u2,eu1,eu2,rfl⟩:=qa et
      rw[ei] at eu1;rw[ei'] at eu2;obtain⟨v1,ev1,rv1⟩:=R2.get eu1;obtain⟨v2,ev2,rv2⟩:=R2'.get eu2;refine⟨⟨ys,Vd,v1,v2,Ve,F0,ev1,ev2⟩,λy H3 eZ=>?_⟩
      obtain⟨T,z1,z2,hT,ey,eH,hz1,hz2⟩:=eZ;have h1:=hz1 ys Ve;have h2:=hz2 Vd F0;rw[ev1] at h1;rw[ev2] at h2;cases h1;cases h2;subst ey;subst eH;obtain⟨h3,jb⟩:=dI.W2 hT (.gn [v1,v2])
      refine⟨_,jb,h3,?_⟩
      unfold RT;exact⟨T,_,rfl,aq,.cons (RT.mono jb _ _ rv1) (.cons (RT.mono jb _ _ rv2) .nil)⟩
     ·have hi:i=(oX s.items s'.items).length:=hi
      have hz:(oX s.items s'.items).length=min l.length l'.length:=by rw[ei,ei'];simp[oX]
      rw[hz] at hi;by_cases hl:l.length<=l'.length
      ·exact .inl ⟨ys,Ve,by rw[R2.len,hi];omega⟩
      ·exact .inr ⟨ys,Vd,Ve,by rw[R2.len,hi];omega,F0,by rw[R2'.len,hi];omega⟩
    |ex n S2=>exact absurd e' AG
    |ay=>rw[e',R.Av] at q1;exact q1.elim
   |ex n S2=>exact absurd e AG
   |ay=>rw[e,R.Av] at q1;exact q1.elim
 ·exact q1.elim
theorem Ib {tp:Pos}{elts:List Expr}{x1}(hm:X.mg "zip"=none)(ha:xH G k X [a,b] fr)(hg:Gl X "zip" := by rfl)(hs:dH a=false:=by rfl)(LF:dH b=false:=by rfl):R4 G k X (.Tuple elts x1 tp) (.Call (.Name "zip" p) [a,b] [] pos) (rW fr):=.mk<|λox=>(Vb hg hm (ha ox) (by rw[cU hs,cU LF];rfl) (by rw[cU LF];rfl)).wk λσ H Q h=>Vc ox.K h
end
theorem ajo {fr:En->Cs->R (List Tr)}{τ:En}{S:Cs}:rW fr τ S=(fr τ S).az rV:=rfl
end L2
namespace L2
open PySem PySem.Spec PyProof.Rows
section
variable {prog:Program}{w:World}{A:Around}{R:Result->Shared->Prop}{I:Addr}{fp wr:List Addr}{G:Array GenState->Array GenState->Prop}{n:Nat}{P:Nat->Value->Prop}{St:Nat->Shared->Prop}
end
section
variable {prog:Program}{w:World}{A:Around}{E:Value->Shared->Prop}{s:Shared}
noncomputable abbrev jn (led:Bool):Obj:={ cls:=.type "set",dict:=none,data:=.set #[] 0 (.fresh 0 0 led)}
end
end L2
namespace L2
open PySem PySem.Spec PyProof.Rows
end L2
namespace L2
open PySem PySem.Spec PyProof.Rows
section
variable {X:Cx}{k:Nat}{g B:Addr}{fd:FuncData}{ps:List Str}{sp:Sp}{e:Expr}{es:List Expr}{t:TA}{n fn cB:Str}{l:Nat}{p cp np ep hp pos:Pos}{jK:List Stmt}{p_:Stmt}{ts:TS}
 {RX q':Str} {N':Addr} {RY Hu:List Value} {ow:Bool} {RZ:List Str} {xB:List Value} {R0:Bool} {xC:Option Bool} {BE:Option Addr} {j0 j1 j2 j3 j5:Option Value} {jT:String}
end
section
variable {K:W.Frag}{cl:Str->Addr}{k j n:Nat}{X:Cx}{g B:Addr}{fd:FuncData}{ps:List Str}{q:Fn}{cB nn fn:Str}{p cp np ep hp pos:Pos}{e:Expr}{es:List Expr}{fr:En->Cs->R (List Tr)}{jK:List Stmt}{p_:Stmt}{sh:Sm}{l:Nat}{cs:List Str}
end
def keysOf:List Tr->Option (List dF)
 |[]=>some []
 |t::r=>(match iz t,keysOf r with|some k,some l=>some (k::l)|_,_=>none)
noncomputable def CQ:Tr->Option (List dF)|.tp l=>keysOf l|_=>none
def AZ (S:Cs)(t1 t2:Tr):Option (Option Tr):=match t1 with
 |.hd n=>(match S[n]? with
  |some (.iy l)=>(iz t2).map λq=>aN q l
  |some (.xE l)=>(iz t2).map λq=>aN q l
  |some (.nW l)=>(CQ t2).map λq=>aN q l
  |some (.rO l)=>(CQ t2).map λq=>aN q l
  |_=>none)
 |_=>none
theorem yT:∀{l:List Tr} {q:List dF} {xs:List V},keysOf l=some q->bG w l xs->xs=q.map kV
 |[],q,xs,e,r=>by cases e;rw[r.b_];rfl
 |t::l,q,xs,e,r=>by
  obtain⟨x,r',rfl,h1,h2⟩:=r.bA;unfold keysOf at e;split at e
  ·rename_i k1 l1 e1 e2
   cases e;rw[f7 e1 h1,yT e2 h2];rfl
  ·cases e
theorem uQ (e:CQ t=some q)(r:RT w t v):∃p,v = .ref p/\w.F p=some (.gn (q.map kV)):=by
 cases t with
 |tp l =>
  unfold RT at r;obtain⟨p,xs,rfl,h,r⟩:=r;rw[yT e r] at h;exact⟨p,rfl,h⟩
 |_=>cases e
def Xk (w:Wd)(ot:Option Tr)(ov:Option V):Prop:=match ot with|some t=>∃v,ov=some v/\RT w t v|none=>ov=none
theorem nI {κ:Type}[DecidableEq κ]{l:List (κ × Tr)}{m:List (κ × V)}(r:RK w l m)(j:κ):Xk w (aN j l) (mE m j):=by
 obtain⟨h1,h2⟩:=mX (k:=j) r
 cases e:aN j l with
 |none=>exact h2 e
 |some t=>exact h1 t e
theorem Ic {S:Cs}{H:Hp}(hr:HR G w S H)(r1:RT w t1 x)(r2:RT w t2 y)(e:AZ S t1 t2=some ot):∃p ov,x = .ref p/\mP H p y ov/\Xk w ot ov:=by
 unfold AZ at e;split at e
 ·rename_i n
  have hx:=r1.cQ.2;split at e
  ·rename_i l en
   rw[zca] at e;obtain⟨q,ek,rfl⟩:=e;obtain⟨aI,h1,h2⟩:=hr.cell _ _ en;exact⟨_,_,hx,.inl ⟨aI,q,.inl h1,f7 ek r2,rfl⟩,nI h2 q⟩
  ·rename_i l en
   rw[zca] at e;obtain⟨q,ek,rfl⟩:=e;obtain⟨ob,aI,h1,h2⟩:=hr.cell _ _ en;exact⟨_,_,hx,.inl ⟨aI,q,.inr ⟨ob,hr.sub _ _ h1⟩,f7 ek r2,rfl⟩,nI h2 q⟩
  ·rename_i l en
   rw[zca] at e;obtain⟨q,ek,rfl⟩:=e;obtain⟨aI,h1,h2⟩:=hr.cell _ _ en;obtain⟨p,ey,hp⟩:=uQ ek r2;exact⟨_,_,hx,.inr ⟨aI,q,p,.inl h1,ey,hr.sub _ _ hp,rfl⟩,nI h2 q⟩
  ·rename_i l en
   rw[zca] at e;obtain⟨q,ek,rfl⟩:=e;obtain⟨ob,aI,h1,h2⟩:=hr.cell _ _ en;obtain⟨p,ey,hp⟩:=uQ ek r2;exact⟨_,_,hx,.inr ⟨aI,q,p,.inr ⟨ob,hr.sub _ _ h1⟩,ey,hr.sub _ _ hp,rfl⟩,nI h2 q⟩
  ·cases e
 ·cases e
def A0 (neg:Bool):Tr->Tr->Cs->R Tr:=λt1 t2 S=>match AZ S t2 t1 with|some o=>.ok (.bl (if neg then !o.isSome else o.isSome)) S|none=>.ay
theorem adn (h:dU G (ai (A0 neg) fa fb) σ H Q):(if neg then Ab (dU G fa) (dU G fb) else aa3 (dU G fa) (dU G fb)) σ H Q:=by
 have h:=mV h;have go:∀{σ H Q},tOp (r2 G (A0 neg)) (dU G fa) (dU G fb) σ H Q->dU G fa σ H λy H1=>dU G fb σ H1 λx H2=>∃a o,x=V.ref a/\mP H2 a y o/\Q (.bl (if neg then !o.isSome else o.isSome)) H2:=λ{σ H Q} h=>by
  obtain⟨w,S,τ,hr,sl,q⟩:=h;refine⟨w,S,τ,hr,sl,q.mono λy H1 ⟨w1,S1,fq,bH,Cc,q1⟩=>⟨w1,S1,fq,bH,Cc,q1.mono λx H2 dh=>?_⟩⟩
  obtain⟨w2,S2,t1,t2,dI,r1,r2,q2⟩:=dh;unfold A0 at q2;split at q2
  ·rename_i ot et
   obtain⟨p,ov,ex,g,hv⟩:=Ic dI r2 r1 et;refine⟨p,ov,ex,g,?_⟩
   have es:ov.isSome=ot.isSome:=by
    cases ot with
    |none=>rw[show ov=none from hv];rfl
    |some t=>obtain⟨v,ev,_⟩:=hv;rw[ev];rfl
   rw[es];exact q2 w2 H2 _ (.refl _) dI gF
  ·exact q2.elim
 cases neg with
 |true=>exact go h
 |false=>exact go h
theorem ado (ha:TV G k X a fa)(hb:TV G k X b fb)(hm:behindInMarks .In b=false:=by with_unfolding_all rfl):Cm G k X (.Compare a [.In] [b] pos) (mB (ai (A0 false) fa fb)):=.mk<|λo=>(L6 (Mw o.W4 (ha o) (hb o)) hm).wk λ_ _ _ h=>adn (neg:=false) (pP h)
def uR:Tr->Tr->Cs->R Tr:=λt1 t2 S=>match AZ S t1 t2 with|some (some t)=>.ok t S|_=>.ay
theorem OD (ha:TV G k X a fa)(hb:TV G k X b fb)(hs:SM b:=by intro _ _;rfl):TV G k X (.Subscript a b pos) (ai uR fa fb):=.mk<|λo=>(Hg o.W4 (ha o) (hb o) hs).wk λσ H Q h=>by
 obtain⟨w,S,τ,hr,sl,q⟩:=mV h;refine⟨w,S,τ,hr,sl,q.mono λx H1 ⟨w1,S1,fq,bH,Cc,q1⟩=>⟨w1,S1,fq,bH,Cc,q1.mono λy H2 mS=>?_⟩⟩
 obtain⟨w2,S2,t1,t2,dI,r1,r2,q2⟩:=mS;unfold uR at q2;split at q2
 ·rename_i t et
  obtain⟨p,ov,ex,g,v,rfl,rv⟩:=Ic dI r1 r2 et;exact⟨p,v,ex,g,q2 w2 H2 v (.refl _) dI rv⟩
 ·exact q2.elim
noncomputable def A1:Em:=λ_ S=>.ok (.hd S.length) (S++[.nW []])
theorem Ku:TV G k X (.Dict [] [] pos) A1:=.mk<|λ_=>MA.wk λσ H Q h=>by
 obtain⟨w,S,τ,hr,sl,q⟩:=h;intro p hp;obtain⟨h2,le⟩:=hr.Fq (c:=.nW []) hp (o:=.dT []) rfl ⟨[],aq,.nil⟩
 refine q _ _ _ le h2 ?_
 unfold RT;exact⟨by show S.length<w.n+1;rw[hr.n];exact zbb _,by show V.ref p=V.ref (if S.length=w.n then p else w.ρ S.length);rw[if_pos hr.n.symm]⟩
def rX (u j t:Tr)(S:Cs):R Unit:=match u with
 |.hd n=>(match S[n]? with
  |some (.iy m)=>(match iz j with|some q=>if m.length<sizeLine then .ok () (S.set n (.iy (gy m q t))) else .ay|none=>.ay)
  |some (.nW m)=>(match CQ j with|some q=>if m.length<sizeLine then .ok () (S.set n (.nW (gy m q t))) else .ay|none=>.ay)
  |_=>.ay)
 |_=>.ay
theorem OE (hr:HR G w S H)(ru:RT w u x)(rj:RT w j y)(rt:RT w t v)(e:rX u j t S = .ok () S'):∃a H',x = .ref a/\tY H a y v H'/\HR G w S' H':=by
 unfold rX at e;split at e
 ·split at e
  ·rename_i m em
   split at e
   ·rename_i q ek
    split at e
    ·cases e
     obtain⟨aI,h1,h2⟩:=hr.cell _ _ em;refine⟨_,_,ru.cQ.2,by rw[f7 ek rj];exact tY.k h1 (by rw[h2.len];assumption),?_⟩
     exact hr.put em rfl rfl ⟨_,aq,h2.put q rt⟩
    ·cases e
   ·cases e
  ·rename_i m em
   split at e
   ·rename_i q ek
    split at e
    ·cases e
     obtain⟨aI,h1,h2⟩:=hr.cell _ _ em;obtain⟨p,ey,hp⟩:=uQ ek rj;refine⟨_,_,ru.cQ.2,by rw[ey];exact tY.t h1 (hr.sub _ _ hp) (by rw[h2.len];assumption),?_⟩
     exact hr.put em rfl rfl ⟨_,aq,h2.put q rt⟩
    ·cases e
   ·cases e
  ·cases e
 ·cases e
theorem F1:rX u j t S ≠ .ex n S':=by
 unfold rX;split<;>(try split)<;>(try split)<;>(try split)<;>simp
def A2 (fo fi fv:Em):Sm:=λτ S=>(fv τ S).bQ λt S1=>(fo τ S1).bQ λu S2=>(fi τ S2).bQ λj S3=>(rX u j t S3).bQ λ_ S4=>.nx τ S4
theorem OF (ho:TV G k X o fo)(hi:TV G k X i fi)(hv:TV G k X value fv)(hs:swapsWith value (some (.Subscript o i jB)) pos.line X.env=pure false:=by rfl):xJ G k X (.Assign [.Subscript o i jB] value pos) (A2 fo fi fv):=.mk<|λox=>(Hh ox.W4 (ho ox) (hi ox) (hv ox) hs).wk λD σ H h=>by
 obtain⟨w,S,τ,hr,sl,q⟩:=h;refine⟨w,S,τ,hr,sl,(bV.az q).mono λv H1 jg=>?_⟩
 obtain⟨w1,S1,t,cX,bH,r1,_,q1⟩:=jg;refine⟨w1,S1,τ,bH,sl.mono cX,(bV.az q1).mono λx H2 ki=>?_⟩
 obtain⟨w2,S2,u,fj,dI,r2,_,q2⟩:=ki;refine⟨w2,S2,τ,dI,(sl.mono cX).mono fj,(bV.az q2).mono λy H3 gD=>?_⟩
 obtain⟨w3,S3,j,jb,nH,r3,_,q3⟩:=gD;cases e:rX u j t S3 with
 |ok z S4 =>
  rw[e] at q3;obtain⟨a,H4,e1,d,HA⟩:=OE nH (RT.mono jb _ _ r2) r3 (RT.mono (fj.trans jb) _ _ r1) e
  exact⟨a,H4,e1,d,q3 w3 _ σ (.refl _) HA (((sl.mono cX).mono fj).mono jb)⟩
 |ex n S4=>exact absurd e F1
 |ay=>rw[e] at q3;exact q3.elim
theorem HR.OG (h:HR G w S H){c c':Ce}(e:S[i]? = some c)(hc:c.fz=false)(Sa:c'.fz=true)(ok:∀w':Wd,w.le w'->w'.F (w.ρ i)=some o'->bz G w' (bf H (w.ρ i) o') (w.ρ i) c'):
  HR G {w with F:=bf w.F (w.ρ i) o' } (S.set i c') (bf H (w.ρ i) o')/\w.le {w with F:=bf w.F (w.ρ i) o' }:=by
 have hi:=(zae.mp e).1
 have li:e_ S i:=⟨c,e,hc⟩
 have hF:w.F (w.ρ i)=none:=by rw[h.F];unfold Fz;rw[if_pos (.inl ⟨i,li,rfl⟩)]
 have le:w.le {w with F:=bf w.F (w.ρ i) o' }:=⟨rfl,zaf _,λ_ _=>rfl,λb u eb=>lg hF eb,rfl⟩
 have lv:∀j,e_ (S.set i c') j->e_ S j/\j≠i:=λj kC=>by
  obtain⟨d,ed,hd⟩:=kC;by_cases hj:i=j
  ·subst hj
   rw[zaM hi] at ed;cases ed;rw[Sa] at hd;cases hd
  ·rw[zaK hj] at ed
   exact⟨⟨d,ed,hd⟩,λz=>hj z.symm⟩
 have lv2:∀j,e_ S j->j≠i->e_ (S.set i c') j:=λj ⟨d,ed,hd⟩ hj=>⟨d,by rw[zaK (λz=>hj z.symm)];exact ed,hd⟩
 refine⟨⟨h.K,by simp[h.n],?_,λj d ej=>?_,λa b la lb=>h.inj a b (lv a la).1 (lv b lb).1,Au h.hid (h.ku i li),λj lj=>h.ku j (lv j lj).1,h.hl⟩,le⟩
 ·show bf w.F (w.ρ i) o'=Fz w.ρ w.hid (S.set i c') (bf H (w.ρ i) o')
  funext b
  unfold Fz;by_cases hb:b=w.ρ i
  ·subst hb
   rw[aq,if_neg,aq];rintro (⟨j,lj,z⟩|z)
   ·exact (lv j lj).2 (h.inj j i (lv j lj).1 li z)
   ·exact z (h.ku i li)
  ·rw[av hb,av hb,h.F]
   unfold Fz;have W3:(∃j,e_ (S.set i c') j/\w.ρ j=b)↔∃j,e_ S j/\w.ρ j=b:=⟨λpQ=>by obtain⟨j,lj,z⟩:=pQ;exact⟨j,(lv j lj).1,z⟩,λly=>by obtain⟨j,lj,z⟩:=ly;exact⟨j,lv2 j lj (λq=>hb (by rw[<-z,q])),z⟩⟩
   by_cases hx:(∃j,e_ S j/\w.ρ j=b)\/w.hid b≠none
   ·rw[if_pos hx,if_pos (hx.imp W3.mpr λz=>z)]
   ·rw[if_neg hx,if_neg (λz=>hx (z.imp W3.mp λz=>z))]
 ·by_cases hj:i=j
  ·subst hj
   rw[zaM hi] at ej;cases ej;exact ok _ le aq
  ·rw[zaK hj] at ej
   cases hd:d.fz with
   |true=>exact bz.Nu le hd (h.cell j d ej)
   |false =>
    refine (h.cell j d ej).mono le λu eu=>?_
    rw[av λz=>hj (h.inj i j li ⟨d,ej,hd⟩ z.symm)]
    exact eu
noncomputable def OH:dF->Tr|.inl i=>.int i|.inr x=>.str x
def iD:Tr->Cs->R yM:=λt S=>match t with
 |.hd n=>(match S[n]? with
  |some (.iy l)=>.ok ⟨l.map λp=>OH p.1,λ_=>True⟩ (S.set n (.xE l))
  |some (.xE l)=>.ok ⟨l.map λp=>OH p.1,λ_=>True⟩ S
  |some (.nW l)=>.ok ⟨l.map λp=>.tp (p.1.map OH),λ_=>True⟩ (S.set n (.rO l))
  |some (.rO l)=>.ok ⟨l.map λp=>.tp (p.1.map OH),λ_=>True⟩ S
  |_=>.ay)
 |_=>.ay
theorem adp (q:dF):RT w (OH q) (kV q):=by
 cases q with
 |inl i=>exact dZ
 |inr x=>exact lq
theorem A3:∀q:List dF,bG w (q.map OH) (q.map kV)
 |[]=>.nil
 |k::r=>.cons (adp k) (A3 r)
theorem A4 {a:Addr}(hF:w.F a=some (.qH ob u))(R:bG w l ks):acj G w ⟨l,λ_=>True⟩ (Itd a ob u ks):=λw1 S1 H1 i hK hn iS hF1 bH _=>by
 have ha:=bH.sub _ _ (hF1 _ _ hF)
 have R1:=R.uF hK hn iS hF1;refine⟨λt et=>?_,λhi=>⟨ha,by rw[R.len,hi];exact zaf _⟩⟩
 obtain⟨v,ev,rv⟩:=R1.get et;refine⟨⟨ha,(zae.mp ev).1⟩,λx H2 ⟨e2,ex⟩=>?_⟩
 subst e2;rw[ev] at ex;cases ex;exact⟨w1,.refl _,bH,rv⟩
theorem Xl (r:RK w l aI):bG w (l.map λp=>OH p.1) (aI.map λp=>kV p.1):=by
 have e1:(l.map λp=>OH p.1)=(l.map Prod.fst).map OH:=by rw[zaI];rfl
 have e2:(aI.map λp=>kV p.1)=(aI.map Prod.fst).map kV:=by rw[zaI];rfl
 rw[e1,e2,r.1];exact A3 _
theorem OI {H:Hp}{S:Cs}(uf:∀b xs,H b=some (.gn xs)->w.F b=some (.gn xs)):∀{aI:List (List dF×V)} {ks:List V},Paired (λ(p:List dF×V) (x:V)=>∃b,x = .ref b/\H b=some (.gn (p.1.map kV))) aI ks->bG w ((aI.map Prod.fst).map λq=>.tp (q.map OH)) ks
 |_,_,.nil=>.nil
 |_,_,.cons ⟨b,ex,hb⟩ t=>.cons (by unfold RT;exact⟨b,_,ex,uf _ _ hb,A3 _⟩) (OI (S:=S) uf t)
theorem HR.ajp (h:HR G w S H){b:Addr}(hb:H b=some (.gn xs)):w.F b=some (.gn xs):=by
 rw[h.F];unfold Fz;rw[if_neg,hb];rintro (⟨i,⟨c,e,n⟩,z⟩|z)
 ·have hc:=h.cell i c e
  rw[z] at hc;cases c with
  |bD l=>obtain⟨_,q,_⟩:=hc;rw[hb] at q;cases q
  |iy l=>obtain⟨_,q,_⟩:=hc;rw[hb] at q;cases q
  |nW l=>obtain⟨_,q,_⟩:=hc;rw[hb] at q;cases q
  |fH c l=>obtain⟨_,_,q,_⟩:=hc;rw[hb] at q;cases q
  |xD c l=>obtain⟨_,_,_,q,_⟩:=hc;rw[hb] at q;cases q
  |uo=>cases n
  |xE l=>cases n
  |rO l=>cases n
 ·cases e:w.hid b with
  |none=>exact z e
  |some u =>
   have:=h.hid b u e
   rw[hb] at this;cases this;exact h.hl b xs e
theorem Ie (ha:TV G k X a fa):R4 G k X tg a (qX iD fa):=.mk<|λox=>(TZ (ha ox)).wk λσ H Q h=>by
 obtain⟨w,S,τ,hr,sl,q⟩:=h;refine⟨w,S,τ,hr,sl,(aZ.az q).mono λx H1 bU=>?_⟩
 obtain⟨w1,S1,t1,cX,bH,r1,_,q1⟩:=bU;unfold iD at q1;split at q1
 ·rename_i n _
  have hx:=r1.cQ.2;split at q1
  ·rename_i l en
   obtain⟨aI,h1,h2⟩:=bH.cell _ _ en;refine⟨_,.dK aI,hx,trivial,.inl ⟨h1,λob ks hk=>?_⟩⟩
   obtain⟨dI,fj⟩:=bH.OG en rfl (c':=.xE l) rfl (o':=.qH ob (.dK aI)) (λw' le' hF=>⟨ob,aI,hF,h2.mono le'⟩)
   cases (show ks=_ from hk)
   exact q1 _ _ _ fj dI (A4 aq (Xl (h2.mono fj)))
  ·rename_i l en
   obtain⟨ob,aI,h1,h2⟩:=bH.cell _ _ en;refine⟨_,.dK aI,hx,trivial,.inr ⟨ob,bH.sub _ _ h1,λks hk=>?_⟩⟩
   cases (show ks=_ from hk)
   exact q1 _ _ _ (.refl _) bH (A4 h1 (Xl h2))
  ·rename_i l en
   obtain⟨aI,h1,h2⟩:=bH.cell _ _ en;refine⟨_,.dT aI,hx,trivial,.inl ⟨h1,λob ks hk=>?_⟩⟩
   obtain⟨dI,fj⟩:=bH.OG en rfl (c':=.rO l) rfl (o':=.qH ob (.dT aI)) (λw' le' hF=>⟨ob,aI,hF,h2.mono le'⟩)
   have R:=OI (S:=S1) (w:={w1 with F:=bf w1.F (w1.ρ n) (.qH ob (.dT aI))}) (λb xs hb=>fj.F _ _ (bH.ajp hb)) hk
   rw[h2.1,zaI] at R;exact q1 _ _ _ fj dI (A4 aq R)
  ·rename_i l en
   obtain⟨ob,aI,h1,h2⟩:=bH.cell _ _ en;refine⟨_,.dT aI,hx,trivial,.inr ⟨ob,bH.sub _ _ h1,λks hk=>?_⟩⟩
   have R:=OI (S:=S1) (λb xs hb=>bH.ajp hb) hk
   rw[h2.1,zaI] at R;exact q1 _ _ _ (.refl _) bH (A4 h1 R)
  ·exact q1.elim
 ·exact q1.elim
noncomputable def qb (H:Hp):List V->List (dF×V)->Prop
 |[],[]=>True
 |x::xs,(q,v)::r=>(∃a,x = .ref a/\H a=some (.gn [kV q,v]))/\qb H xs r
 |_,_=>False
theorem qb.len:∀{xs:List V} {r:List (dF×V)},qb H xs r->xs.length=r.length
 |[],[],_=>rfl
 |x::xs,(q,v)::r,h=>by simp[qb.len h.2]
 |[],_::_,h=>h.elim
 |_::_,[],h=>h.elim
theorem qb.get:∀{xs:List V} {r:List (dF×V)} {i:Nat} {x:V},qb H xs r->xs[i]? = some x->∃q v a,r[i]? = some (q,v)/\x = .ref a/\H a=some (.gn [kV q,v])
 |[],[],i,x,_,e=>by simp at e
 |y::xs,(q,v)::r,0,x,h,e=>by
  simp at e
  subst e;obtain⟨a,e1,e2⟩:=h.1;exact⟨q,v,a,rfl,e1,e2⟩
 |y::xs,(q,v)::r,i+1,x,h,e=>by simpa using qb.get (i:=i) h.2 (by simpa using e)
 |[],_::_,_,_,h,_=>h.elim
 |_::_,[],_,_,h,_=>h.elim
theorem Ig {r:List (dF×V)}(h:∀i q v,r[i]? = some (q,v)->(kv i).1=q/\bI v (kv i).2):∀n,n<=r.length->KV (gq [] (r.take n)) (um kv n)
 |0,_=>.nil
 |n+1,hn=>by
  have ih:=Ig h n (by omega)
  have e:r.take (n+1)=r.take n++[r[n]'(by omega)]:=by rw[List.take_add_one,zag (by omega)];rfl
  obtain⟨e1,e2⟩:=h n (r[n]'(by omega)).1 (r[n]'(by omega)).2 (zag (by omega))
  rw[e];unfold gq um;rw[zcJ];show KV (kg (gq [] (r.take n)) (r[n]'(by omega)).1 (r[n]'(by omega)).2) (stored (um kv n) (kv n).1 (kv n).2)
  rw[e1];exact ih.put _ e2
theorem F2 (hc:X.d9=true):ig X (.type "dict") (λxs H Q=>∃(p:Addr) (ys:List V) (r:List (dF×V)),xs=[.ref p]/\H p=some (.bD ys)/\qb H ys r/\r.length<=1000/\∀l,H l=none->Q (.ref l) (bf H l (.dK (gq [] r)))):=by
 intro ah s σ H xs us Q I rr h;obtain⟨p,ys,r,rfl,hp,hr,hl,q⟩:=h;obtain⟨u,rfl,ru⟩:=j9 rr;cases ru;obtain⟨aJ,n,rv,e,_⟩:=I.bD hp;have cM:aJ.length=r.length:=by rw[<-rv.length,hr.len]
 -- yc agz,sA and tZ of yc aqm
 have tQ:∀i,i<r.length->∃(a:Addr) (kk vv:Value),aJ[i]? = some (.ref a)/\qM s.heap a kk vv/\mK (r.getD i (.inl 0,.bq)).1 kk=true/\bI (r.getD i (.inl 0,.bq)).2 vv:=λi hi=>by
  have hy:i<ys.length:=by rw[hr.len];exact hi
  obtain⟨kq,v,a,e1,e2,e3⟩:=hr.get (zag hy)
  obtain⟨u,hu,ru⟩:=rv.get (zag hy)
  rw[e2] at ru;cases (show u=Value.ref a from ru)
  obtain⟨_,ws,z9,ob,ho,oc,m,od⟩:=(show bP X.prog X.w H s.heap a (.gn [kV kq,v]) from I.bZ a _ e3)
  obtain⟨w1,w2,rfl,g1,g2⟩:=z9.two;have eg:r.getD i (.inl 0,.bq)=(kq,v):=by rw[zcV,e1];rfl
  rw[eg];exact⟨a,w1,w2,hu,⟨ob,m,ho,oc,od⟩,rJ (P:=X.prog) (w:=X.w) g1,g2⟩
 let ad:Nat->Addr:=λi=>if h:i<r.length then (tQ i h).choose else 0
 let kk:Nat->Value:=λi=>if h:i<r.length then (tQ i h).choose_spec.choose else .none
 let kv:Nat->dF×Value:=λi=>if h:i<r.length then ((r.getD i (.inl 0,.bq)).1,(tQ i h).choose_spec.choose_spec.choose) else (.inl 0,.none)
 have spec:∀i,i<r.length->aJ[i]? = some (.ref (ad i))/\qM s.heap (ad i) (kk i) (kv i).2/\mK (kv i).1 (kk i)=true/\(kv i).1=(r.getD i (.inl 0,.bq)).1/\bI (r.getD i (.inl 0,.bq)).2 (kv i).2:=λi hi=>by
  have:=(tQ i hi).choose_spec.choose_spec.choose_spec
  simp only[ad,kk,kv,dif_pos hi];exact⟨this.1,this.2.1,this.2.2.1,trivial,this.2.2.2⟩
 have hsz:aJ.toArray.size=r.length:=by simp[cM]
 refine sH (ad:=ad) (kk:=kk) (kv:=kv) (I.ok.hd hc) e (λi v hv=>?_) (λi hi=>(spec i (by omega)).2.2.1) (by omega) (λm hm=>(spec m (by omega)).2.1) λh' tk hS hk=>?_
 ·have hv:aJ[i]? = some v:=by simpa using hv
  have hi:i<r.length:=by rw[<-cM];exact (zae.mp hv).1
  rw[(spec i hi).1] at hv;exact (zaw hv).symm
 ·rw[hsz] at hS
  have hkv:KV (gq [] r) (um kv r.length):=by
   have:=Ig (kv:=kv) (r:=r) (λi kq v e1=>by
    have hi:i<r.length:=(zae.mp e1).1
    have eg:r.getD i (.inl 0,.bq)=(kq,v):=by rw[zcV,e1];rfl
    obtain⟨_,_,_,s4,s5⟩:=spec i hi;rw[eg] at s4 s5;exact⟨s4,s5⟩) r.length (zaf _)
   rwa[zbZ] at this
  refine⟨.ref s.heap.objs.size,_,I.iJ (t':=tk) hk (zaf _) (show bP X.prog X.w _ _ _ (.dK (gq [] r)) from ⟨?_,beq_eq_false_iff_ne.mpr (zbe (zao I.big)),_,hkv,hS⟩),rfl,q _ (I.bZ.fresh (zaf _))⟩
  have h1:=As kv r.length;rw[hkv.length];exact zah h1 (zah hl (by decide))
def q_:List Tr->Option (List (dF×Tr))
 |[]=>some []
 |.tp [a,b]::r=>(match iz a,q_ r with|some q,some l=>some ((q,b)::l)|_,_=>none)
 |_=>none
def A5:List Tr->Cs->R Tr:=λts S=>match ts with
 |[t]=>(match Ez S t with|some l=>(match q_ l with|some ps=>if ps.length<=1000 then .ok (.hd S.length) (S++[.iy (fm [] ps)]) else .ay|none=>.ay)|none=>.ay)
 |_=>.ay
theorem yU (hF:∀b o,w.F b=some o->H b=some o):∀{l:List Tr} {ps:List (dF×Tr)} {xs:List V},q_ l=some ps->bG w l xs->∃r,qb H xs r/\RK w ps r
 |[],ps,xs,e,rt=>by cases e;rw[rt.b_];exact⟨[],trivial,.nil⟩
 |.tp [a,b]::l,ps,xs,e,rt=>by
  obtain⟨x,xs',rfl,h1,h2⟩:=rt.bA;unfold q_ at e;split at e
  ·rename_i q l' e1 e2
   cases e;obtain⟨r,g1,g2⟩:=yU hF e2 h2;unfold RT at h1;obtain⟨ad,ys,rfl,hy,ry⟩:=h1;obtain⟨y1,y2,rfl,ra,rb⟩:=sV ry;rw[f7 e1 ra] at hy;exact⟨(q,y2)::r,⟨⟨ad,rfl,hF _ _ hy⟩,g1⟩,.cons rb g2⟩
  ·cases e
 |.bq::_,_,_,e,_|.bl _::_,_,_,e,_|.int _::_,_,_,e,_|.str _::_,_,_,e,_|.ls _::_,_,_,e,_|.kt _::_,_,_,e,_|.kl _::_,_,_,e,_|.hd _::_,_,_,e,_=>by cases e
 |.tp []::_,_,_,e,_|.tp [_]::_,_,_,e,_|.tp (_::_::_::_)::_,_,_,e,_=>by cases e
theorem Vf (hk:0<k:=by first|decide|omega):mh G k (.type "dict") A5:=.mk<|λX o ah s σ H xs us Q I rv bU=>by
 obtain⟨w,S,ts,hr,r,q⟩:=bU;unfold A5 at q;split at q
 ·obtain⟨x,rfl,r1⟩:=fu r
  split at q
  ·rename_i l el
   split at q
   ·rename_i ps ep
    split at q
    ·rename_i hl
     obtain⟨a,ys,rfl,ha,ry⟩:=oS hr r1 el;obtain⟨rp,h1,h2⟩:=yU hr.sub ep ry;refine F2 (o.d9 hk) ah s σ H _ us Q I rv ⟨a,ys,rp,rfl,ha,h1,by rw[h2.len];exact hl,λp hp=>?_⟩
     obtain⟨dI,le⟩:=hr.Fq (c:=.iy (fm [] ps)) hp (o:=.dK (gq [] rp)) rfl ⟨_,aq,(RK.B3 h2 .nil).mono (w.uq p)⟩
     refine q _ _ _ le dI ?_
     unfold RT;exact⟨by show S.length<w.n+1;rw[hr.n];exact zbb _,by show V.ref p=V.ref (if S.length=w.n then p else w.ρ S.length);rw[if_pos hr.n.symm]⟩
    ·exact q.elim
   ·exact q.elim
  ·exact q.elim
 ·exact q.elim
section
variable {a0 a1 a2 a3 a4 a5 a6 a7 a8 a9 a10 a11 a12 a13 a14 a15 a16 a17 a18 a19:Option Tr}{x0 x1 x2 x3 x4 x5 x6 x7 x8 x9 iE iu x12 t y:Tr}{n0 n1 n2 n3 n4 n5 n6 n7 n8 n9 n10 n11 n12 n13 n14 n15 n16 c:Str}{r:En}{S:Cs}{sb:Sm}{q:Fn}{f:Tr->Cs->R β}{f':Tr->Cs->RS}{l:List Tr}{b:Bool}{z:Int}{g:Tr->Tr->Cs->R Tr}{fb:Em}{fr:En->Cs->R (List Tr)}{sc:Sm}{k n:Nat}{x:Str}{fs:List (Str×Tr)}
theorem sl {α:Type}{l:List α}(n:Nat)(h:l.length=n)(hn:n<=20:=by decide):l.length<=sizeLine:=by rw[h];exact zah hn (by decide)
theorem Xm {i:Int}(h:jG l i=some y):bu (.tp l) (.int i) S = .ok y S:=by rw[Ow];simp only[Cr,h]
theorem ixl {i:Int}(h:jG l i=some y):bu (.ls l) (.int i) S = .ok y S:=by rw[Ow];simp only[Cr,h]
theorem vV0:aa 0 (some t::r) S = .ok t S:=rfl
theorem bV0:(aa 0 (some t::r) S).az f=f t S:=rfl
theorem sV0:(aa 0 (some t::r) S).bQ f'=f' t S:=rfl
theorem bN0:bB 0 t (a0::r) S = .ok (some t::r) S:=rfl
theorem bV1:(aa 1 (a0::some t::r) S).az f=f t S:=rfl
theorem sV1:(aa 1 (a0::some t::r) S).bQ f'=f' t S:=rfl
theorem kS1:xT 1 (a0::a1::r) t S = .nx (a0::some t::r) S:=rfl
theorem bN1:bB 1 t (a0::a1::r) S = .ok (a0::some t::r) S:=rfl
theorem vV2:aa 2 (a0::a1::some t::r) S = .ok t S:=rfl
theorem bV2:(aa 2 (a0::a1::some t::r) S).az f=f t S:=rfl
theorem sV2:(aa 2 (a0::a1::some t::r) S).bQ f'=f' t S:=rfl
theorem kS2:xT 2 (a0::a1::a2::r) t S = .nx (a0::a1::some t::r) S:=rfl
theorem bN2:bB 2 t (a0::a1::a2::r) S = .ok (a0::a1::some t::r) S:=rfl
theorem vV3:aa 3 (a0::a1::a2::some t::r) S = .ok t S:=rfl
theorem bV3:(aa 3 (a0::a1::a2::some t::r) S).az f=f t S:=rfl
theorem sV3:(aa 3 (a0::a1::a2::some t::r) S).bQ f'=f' t S:=rfl
theorem kS3:xT 3 (a0::a1::a2::a3::r) t S = .nx (a0::a1::a2::some t::r) S:=rfl
theorem bN3:bB 3 t (a0::a1::a2::a3::r) S = .ok (a0::a1::a2::some t::r) S:=rfl
theorem bV4:(aa 4 (a0::a1::a2::a3::some t::r) S).az f=f t S:=rfl
theorem sV4:(aa 4 (a0::a1::a2::a3::some t::r) S).bQ f'=f' t S:=rfl
theorem kS4:xT 4 (a0::a1::a2::a3::a4::r) t S = .nx (a0::a1::a2::a3::some t::r) S:=rfl
theorem bN4:bB 4 t (a0::a1::a2::a3::a4::r) S = .ok (a0::a1::a2::a3::some t::r) S:=rfl
theorem bV5:(aa 5 (a0::a1::a2::a3::a4::some t::r) S).az f=f t S:=rfl
theorem kS5:xT 5 (a0::a1::a2::a3::a4::a5::r) t S = .nx (a0::a1::a2::a3::a4::some t::r) S:=rfl
theorem bN5:bB 5 t (a0::a1::a2::a3::a4::a5::r) S = .ok (a0::a1::a2::a3::a4::some t::r) S:=rfl
theorem bV6:(aa 6 (a0::a1::a2::a3::a4::a5::some t::r) S).az f=f t S:=rfl
theorem kS6:xT 6 (a0::a1::a2::a3::a4::a5::a6::r) t S = .nx (a0::a1::a2::a3::a4::a5::some t::r) S:=rfl
theorem bN6:bB 6 t (a0::a1::a2::a3::a4::a5::a6::r) S = .ok (a0::a1::a2::a3::a4::a5::some t::r) S:=rfl
theorem bV7:(aa 7 (a0::a1::a2::a3::a4::a5::a6::some t::r) S).az f=f t S:=rfl
theorem kS7:xT 7 (a0::a1::a2::a3::a4::a5::a6::a7::r) t S = .nx (a0::a1::a2::a3::a4::a5::a6::some t::r) S:=rfl
theorem bN7:bB 7 t (a0::a1::a2::a3::a4::a5::a6::a7::r) S = .ok (a0::a1::a2::a3::a4::a5::a6::some t::r) S:=rfl
theorem kS8:xT 8 (a0::a1::a2::a3::a4::a5::a6::a7::a8::r) t S = .nx (a0::a1::a2::a3::a4::a5::a6::a7::some t::r) S:=rfl
theorem bN8:bB 8 t (a0::a1::a2::a3::a4::a5::a6::a7::a8::r) S = .ok (a0::a1::a2::a3::a4::a5::a6::a7::some t::r) S:=rfl
theorem bN9:bB 9 t (a0::a1::a2::a3::a4::a5::a6::a7::a8::a9::r) S = .ok (a0::a1::a2::a3::a4::a5::a6::a7::a8::some t::r) S:=rfl
theorem aod:bB 10 t (a0::a1::a2::a3::a4::a5::a6::a7::a8::a9::a10::r) S = .ok (a0::a1::a2::a3::a4::a5::a6::a7::a8::a9::some t::r) S:=rfl
theorem bC:(mC t r S).az f=f t S:=rfl
theorem sC:(mC t r S).bQ f'=f' t S:=rfl
theorem ajq:dM [n0] sb [x0] S=(sb [some x0] S).fP:=rfl
theorem ajr:dM [n0,n1] sb [x0] S=(sb [some x0,none] S).fP:=rfl
theorem ajs:dM [n0,n1,n2] sb [x0] S=(sb [some x0,none,none] S).fP:=rfl
theorem ajt:dM [n0,n1,n2,n3] sb [x0] S=(sb [some x0,none,none,none] S).fP:=rfl
theorem aju:dM [n0,n1,n2,n3,n4,n5,n6,n7] sb [x0] S=(sb [some x0,none,none,none,none,none,none,none] S).fP:=rfl
theorem ajv:dM [n0,n1] sb [x0,x1] S=(sb [some x0,some x1] S).fP:=rfl
theorem ajw:dM [n0,n1,n2] sb [x0,x1] S=(sb [some x0,some x1,none] S).fP:=rfl
theorem ajx:dM [n0,n1,n2,n3] sb [x0,x1] S=(sb [some x0,some x1,none,none] S).fP:=rfl
theorem ajy:dM [n0,n1,n2,n3,n4] sb [x0,x1] S=(sb [some x0,some x1,none,none,none] S).fP:=rfl
theorem ajz:dM [n0,n1,n2,n3,n4,n5] sb [x0,x1] S=(sb [some x0,some x1,none,none,none,none] S).fP:=rfl
theorem ajA:dM [n0,n1,n2,n3,n4,n5,n6] sb [x0,x1] S=(sb [some x0,some x1,none,none,none,none,none] S).fP:=rfl
theorem ajB:dM [n0,n1,n2,n3,n4,n5,n6,n7] sb [x0,x1] S=(sb [some x0,some x1,none,none,none,none,none,none] S).fP:=rfl
theorem ajC:dM [n0,n1,n2,n3,n4,n5,n6,n7,n8] sb [x0,x1] S=(sb [some x0,some x1,none,none,none,none,none,none,none] S).fP:=rfl
theorem adq:dM [n0,n1,n2,n3,n4,n5,n6,n7,n8,n9,n10] sb [x0,x1] S=(sb [some x0,some x1,none,none,none,none,none,none,none,none,none] S).fP:=rfl
theorem ajD:dM [n0,n1,n2] sb [x0,x1,x2] S=(sb [some x0,some x1,some x2] S).fP:=rfl
theorem ajE:dM [n0,n1,n2,n3] sb [x0,x1,x2] S=(sb [some x0,some x1,some x2,none] S).fP:=rfl
theorem ajF:dM [n0,n1,n2,n3,n4] sb [x0,x1,x2] S=(sb [some x0,some x1,some x2,none,none] S).fP:=rfl
theorem ajG:dM [n0,n1,n2,n3] sb [x0,x1,x2,x3] S=(sb [some x0,some x1,some x2,some x3] S).fP:=rfl
theorem ajH:dM [n0,n1,n2,n3,n4] sb [x0,x1,x2,x3,x4] S=(sb [some x0,some x1,some x2,some x3,some x4] S).fP:=rfl
theorem ajI:fnX [n0,n1,n2,n3] sb [x0,x1] S=(sb [some x0,some x1,none,none] S).acZ:=rfl
theorem kF1:kFn 1 q [x0] S=q [x0] S:=rfl
theorem kF2:kFn 2 q [x0,x1] S=q [x0,x1] S:=rfl
theorem kF3:kFn 3 q [x0,x1,x2] S=q [x0,x1,x2] S:=rfl
theorem kF4:kFn 4 q [x0,x1,x2,x3] S=q [x0,x1,x2,x3] S:=rfl
theorem kF5:kFn 5 q [x0,x1,x2,x3,x4] S=q [x0,x1,x2,x3,x4] S:=rfl
theorem kM1:uN 1 q t [] S=q [t] S:=rfl
theorem kM2:uN 2 q t [x0] S=q [t,x0] S:=rfl
theorem kM3:uN 3 q t [x0,x1] S=q [t,x0,x1] S:=rfl
theorem kK3:Ia c 3 q [x0,x1] S=(q [.hd S.length,x0,x1] (S++[.fH c []])).az (uO S.length):=rfl
theorem kK5:Ia c 5 q [x0,x1,x2,x3] S=(q [.hd S.length,x0,x1,x2,x3] (S++[.fH c []])).az (uO S.length):=rfl
theorem kL0:AV [] S = .ok (.ls []) S:=if_pos (sl 0 rfl)
theorem kC0:Oh [] S = .ok (.hd S.length) (S++[.bD []])  := if_pos (sl 0 rfl)
theorem kT1:CN [x0] S = .ok (.tp [x0]) S:=if_pos (sl 1 rfl)
theorem kL1:AV [x0] S = .ok (.ls [x0]) S:=if_pos (sl 1 rfl)
theorem kT2:CN [x0,x1] S = .ok (.tp [x0,x1]) S:=if_pos (sl 2 rfl)
theorem kL2:AV [x0,x1] S = .ok (.ls [x0,x1]) S:=if_pos (sl 2 rfl)
theorem kT3:CN [x0,x1,x2] S = .ok (.tp [x0,x1,x2]) S:=if_pos (sl 3 rfl)
theorem kL3:AV [x0,x1,x2] S = .ok (.ls [x0,x1,x2]) S:=if_pos (sl 3 rfl)
theorem kT4:CN [x0,x1,x2,x3] S = .ok (.tp [x0,x1,x2,x3]) S:=if_pos (sl 4 rfl)
theorem kL4:AV [x0,x1,x2,x3] S = .ok (.ls [x0,x1,x2,x3]) S:=if_pos (sl 4 rfl)
theorem kT5:CN [x0,x1,x2,x3,x4] S = .ok (.tp [x0,x1,x2,x3,x4]) S:=if_pos (sl 5 rfl)
theorem kL5:AV [x0,x1,x2,x3,x4] S = .ok (.ls [x0,x1,x2,x3,x4]) S:=if_pos (sl 5 rfl)
theorem kC5:Oh [x0,x1,x2,x3,x4] S = .ok (.hd S.length) (S++[.bD [x0,x1,x2,x3,x4]])  := if_pos (sl 5 rfl)
theorem kT6:CN [x0,x1,x2,x3,x4,x5] S = .ok (.tp [x0,x1,x2,x3,x4,x5]) S:=if_pos (sl 6 rfl)
theorem kT7:CN [x0,x1,x2,x3,x4,x5,x6] S = .ok (.tp [x0,x1,x2,x3,x4,x5,x6]) S:=if_pos (sl 7 rfl)
theorem kL8:AV [x0,x1,x2,x3,x4,x5,x6,x7] S = .ok (.ls [x0,x1,x2,x3,x4,x5,x6,x7]) S:=if_pos (sl 8 rfl)
theorem aoe:AV [x0,x1,x2,x3,x4,x5,x6,x7,x8,x9,iE,iu] S = .ok (.ls [x0,x1,x2,x3,x4,x5,x6,x7,x8,x9,iE,iu]) S:=if_pos (sl 12 rfl)
theorem iT0:bu (.tp (y::l)) (.int 0) S = .ok y S:=Xm (by simp[at0])
theorem iT1:bu (.tp (x0::y::l)) (.int 1) S = .ok y S:=Xm (by simp[at1])
theorem iT2:bu (.tp (x0::x1::y::l)) (.int 2) S = .ok y S:=Xm (by simp[at2])
theorem iT3:bu (.tp (x0::x1::x2::y::l)) (.int 3) S = .ok y S:=Xm (by simp[at3])
theorem iT4:bu (.tp (x0::x1::x2::x3::y::l)) (.int 4) S = .ok y S:=Xm (by simp[at4])
theorem iT5:bu (.tp (x0::x1::x2::x3::x4::y::l)) (.int 5) S = .ok y S:=Xm (by simp[at5])
theorem iT6:bu (.tp (x0::x1::x2::x3::x4::x5::y::l)) (.int 6) S = .ok y S:=Xm (by simp[at6])
theorem iT7:bu (.tp (x0::x1::x2::x3::x4::x5::x6::y::l)) (.int 7) S = .ok y S:=Xm (by simp[at7])
theorem iL0:bu (.ls (y::l)) (.int 0) S = .ok y S:=ixl (by simp[at0])
theorem iL1:bu (.ls (x0::y::l)) (.int 1) S = .ok y S:=ixl (by simp[at1])
theorem gIb:xM [.bl b] S = .ok (.int (if b then 1 else 0)) S:=rfl
theorem aof:ai g (aa 0) fb (some t::r) S=(fb (some t::r) S).az (g t):=rfl
theorem aog:CM g (aa 0) (some t::r) y S=g y t S:=rfl
theorem aV0:af (aa 0) fr (some t::r) S=(fr (some t::r) S).az (gH t):=rfl
theorem aoh:ai g (aa 1) fb (a0::some t::r) S=(fb (a0::some t::r) S).az (g t):=rfl
theorem aoi:CM g (aa 1) (a0::some t::r) y S=g y t S:=rfl
theorem aV1:af (aa 1) fr (a0::some t::r) S=(fr (a0::some t::r) S).az (gH t):=rfl
theorem aoj:ai g (aa 2) fb (a0::a1::some t::r) S=(fb (a0::a1::some t::r) S).az (g t):=rfl
theorem aok:CM g (aa 2) (a0::a1::some t::r) y S=g y t S:=rfl
theorem aV2:af (aa 2) fr (a0::a1::some t::r) S=(fr (a0::a1::some t::r) S).az (gH t):=rfl
theorem aol:ai g (aa 3) fb (a0::a1::a2::some t::r) S=(fb (a0::a1::a2::some t::r) S).az (g t):=rfl
theorem aom:CM g (aa 3) (a0::a1::a2::some t::r) y S=g y t S:=rfl
theorem aV3:af (aa 3) fr (a0::a1::a2::some t::r) S=(fr (a0::a1::a2::some t::r) S).az (gH t):=rfl
theorem aon:ai g (aa 4) fb (a0::a1::a2::a3::some t::r) S=(fb (a0::a1::a2::a3::some t::r) S).az (g t):=rfl
theorem aoo:CM g (aa 4) (a0::a1::a2::a3::some t::r) y S=g y t S:=rfl
theorem aV4:af (aa 4) fr (a0::a1::a2::a3::some t::r) S=(fr (a0::a1::a2::a3::some t::r) S).az (gH t):=rfl
theorem aop:ai g (aa 5) fb (a0::a1::a2::a3::a4::some t::r) S=(fb (a0::a1::a2::a3::a4::some t::r) S).az (g t):=rfl
theorem aV5:af (aa 5) fr (a0::a1::a2::a3::a4::some t::r) S=(fr (a0::a1::a2::a3::a4::some t::r) S).az (gH t):=rfl
theorem aoq:ai g (aa 6) fb (a0::a1::a2::a3::a4::a5::some t::r) S=(fb (a0::a1::a2::a3::a4::a5::some t::r) S).az (g t):=rfl
theorem aV6:af (aa 6) fr (a0::a1::a2::a3::a4::a5::some t::r) S=(fr (a0::a1::a2::a3::a4::a5::some t::r) S).az (gH t):=rfl
theorem aV7:af (aa 7) fr (a0::a1::a2::a3::a4::a5::a6::some t::r) S=(fr (a0::a1::a2::a3::a4::a5::a6::some t::r) S).az (gH t):=rfl
theorem aV8:af (aa 8) fr (a0::a1::a2::a3::a4::a5::a6::a7::some t::r) S=(fr (a0::a1::a2::a3::a4::a5::a6::a7::some t::r) S).az (gH t):=rfl
theorem aV9:af (aa 9) fr (a0::a1::a2::a3::a4::a5::a6::a7::a8::some t::r) S=(fr (a0::a1::a2::a3::a4::a5::a6::a7::a8::some t::r) S).az (gH t):=rfl
theorem sS5:(R.ok t S).bQ (xT 5 (a0::a1::a2::a3::a4::a5::r)) = .nx (a0::a1::a2::a3::a4::some t::r) S:=rfl
theorem kBC:CM g (mC y) r t S=g t y S:=rfl
theorem kCN:Og ak r t S = .ok [t] S:=rfl
theorem aC:af (mC t) fr r S=(fr r S).az (gH t):=rfl
theorem ln7:∀{p0 p1 p2 p3 p4 p5 p6:Str×Tr},([p0,p1,p2,p3,p4,p5,p6]:List (Str×Tr)).length=7:=rfl
theorem aor:∀{p0 p1 p2 p3 p4 p5 p6 p7 p8 p9 p10 p11:Str×Tr},([p0,p1,p2,p3,p4,p5,p6,p7,p8,p9,p10,p11]:List (Str×Tr)).length=12:=rfl
end
section
variable {G:Gx}{k:Nat}{X:Cx}{e o:Expr}{es:List Expr}{f:Em}{fo:Em}{fr:En->Cs->R (List Tr)}{x:Str}{pos jB p eX:Pos}{CX:_}{j n:Nat}{ad:Addr}{fd:FuncData}{ps:List Str}{q:Fn}{st:Stmt}{c m:Str}
theorem aos (i:Nat)(hN:X.N.Nodup)(he:TV G k X e f)(hi:X.N[i]? = some x:=by rfl)(hx:WI X.env.scope x:=by first|exact Or.inl rfl|exact Or.inr rfl)(hs:swapsWith e (some (.Name x jB)) pos.line X.env=pure false:=by rfl)(hf:X.fn x=true\/X.env.scope.names.lookup x=some .local:=by first|exact .inl rfl|exact .inr rfl|assumption):xJ G k X (.Assign [.Name x jB] e pos) (br i f):=acf hN hi hx he hs hf
theorem eB (i:Nat)(hN:X.N.Nodup)(hi:X.N[i]? = some x:=by rfl)(hx:WI X.env.scope x:=by first|exact Or.inl rfl|exact Or.inr rfl)(hf:X.fn x=true\/X.env.scope.names.lookup x=some .local:=by first|exact .inl rfl|exact .inr rfl|assumption):Ka G k X (.Name x pos) (bB i):=Uq hN hi hx hf
theorem cL (F:aP X.prog X.w X.K X.mg X.base CX j ad fd ps (dW G.K G.cl n q))(D:oF X.K X.mg x st ps ad fd)(ha:xH G k X (e::es) fr)(hj:j<=k:=by decide)(hx:gC CX X G.E:=by first|exact aG|exact aot)
  (hg:Gl X x:=by rfl) (tU:(x == ("__debug__":Str))=false:=by decide) (he:dH e=false:=by rfl) (hpl:dD es=true:=by rfl) (EF:0<k:=by first|decide|omega):
  TV G k X (.Call (.Name x p) (e::es) [] pos) (dR n q fr):=AK F hj D.m D.F.kp D.b hx ha hg tU he hpl EF
theorem EH {F T:List Str}{ns:List Nat}{sc:Scope}(st:Stmt)(d:(∀y∈sc.names,y.2 ≠ .cell)/\(∀y∈sc.names,y.2 = .local->sc.names.lookup y.1=some .local)/\(∀y∈sc.names,y.2 = .free->(aj st).names.lookup y.1=some .cell)/\∀x∈F,sc.names.lookup x=some .free)(h1:sc.kind = .function:=by rfl)(h6:ns.map (λj=>X.N[j]?)=F.map some:=by rfl)(he:∀n,X.env.kindOf n=(aj st).names.lookup n:=by intro _;rfl):c9 X F T ns sc:=⟨h1,d.1,d.2.1,λy hy h=>(he _).trans (d.2.2.1 y hy h),d.2.2.2,h6⟩
end
section
variable {prog:Program}{w:World}{A:Around}{E:Value->Shared->Prop}{s:Shared}{z0:Array Keyed}
end
theorem xU:∀{vs:List Value} {ns:List Int},IntsAre vs ns->bE (ns.map V.int) vs:=λh=>by
 induction h with
 |nil=>exact .nil
 |cons n t r ih=>exact .cons ⟨t,rfl⟩ ih
theorem qc:bootBuiltins "sorted"=some (.builtin "sorted"):=by kernel_rfl
section
variable {G:Gx}{k:Nat}{w:Wd}{X:Cx}{ah:List (Addr×Obj)}{s:Shared}{σ:St}{H:Hp}
end
end L2
namespace L2
open PySem PySem.Spec PyProof.Rows
def Vg (to:TE)(tl th:TO):TG:=λv σ H Q=>to σ H λx H1=>tl σ H1 λl H2=>th σ H2 λu H3=>∃p b xs ys a c,x = .ref p/\v = .ref b/\H3 p=some (.bD xs)/\H3 b=some (.bD ys)/\p≠b/\l=some a/\u=some c/\0<=a/\a<=c/\c<=xs.length/\xs.length+ys.length<=sizeLine/\Q σ (bf H3 p (.bD (xs.take a.toNat++ys++xs.drop c.toNat)))
section
variable {X:Cx}{o:Expr}{lo hi:Option Expr}{to:TE}{tl th:TO}{p2 pos:Pos}
theorem Kv (ho:PE X o to)(hl:PO X lo tl)(hu:PO X hi th)
  (ha:∀v,assign (.Subscript o (.Slice lo hi none p2) pos) X.env v=(do
   let ov <-holding [v] (eval o X.env)
   let iv <-holding [v,ov] (eval (.Slice lo hi none p2) X.env)
   standAt pos
   holding [v,ov,iv] (setItem ov iv v)
   release [iv,v,ov] []):=by intro _;rfl):PG X (.Subscript o (.Slice lo hi none p2) pos) (Vg to tl th):=by
 intro ah s σ H v u Q I r h;rw[ha];refine zaa (zaz (cP (ho ah s σ H _ I h) λov s1 bU=>?_))
 obtain⟨x,H1,I1,r1,q1⟩:=bU;refine zaa (zaz (wpAny_Slice (cP (hl ah s1 σ H1 _ I1 q1) λvl s2 dh=>?_)))
 obtain⟨l,H2,I2,pl,q2⟩:=dh;refine cP (hu ah s2 σ H2 _ I2 q2) λvu s3 eZ=>?_
 obtain⟨u3,H3,I3,pu,q3⟩:=eZ;refine zac ?_
 have I4:aH X ah σ H3 { s3 with heap:=s3.heap.push { cls:=.type "slice",data:=.fields #[vl,vu,.none]} }:=I3.eU (t':=s3.toks) λb ob q=>zab _ q
 obtain⟨p,b,xs,ys,a,c,rfl,rfl,hp,hb,o_,rfl,rfl,h0,hac,hle,hz,q⟩:=q3;cases r1;cases r;obtain⟨z,aJ,n,rr,Nt,e⟩:=I4.xq hp;obtain⟨z2,fZ,n2,r2,An,e2⟩:=I4.xq hb;obtain⟨a',rfl⟩:=zbn h0;obtain⟨c',rfl⟩:=zbn (Int.le_trans h0 hac)
 have hsz:aJ.toArray.size=xs.length:=by rw[zaq];omega
 have hsz2:fZ.toArray.size=ys.length:=by rw[zaq];omega
 refine zaa (zcx (zaa (zaz (xu (a:=a') (c:=c') e e2 o_ (Heap.IsSliceOf.new ..) pl pu (by omega) (by rw[hsz];omega) (by rw[hsz,hsz2];exact hz) ?_))))
 refine wpAny_release ⟨σ,_,I4.MK (its':=aJ.take a'++fZ++aJ.drop c') (t':=s3.toks) hp e ?_ (bE.je (bE.je (rr.take _) r2) (rr.drop _)) ?_,q⟩
 ·exact JP aJ fZ a' c'
 ·rw[zan,zan,zaU,zeq]
  omega
end
def OJ (fo fl fh:Em):Tr->En->Cs->R En:=λt τ S=>(fo τ S).az λu S1=>(fl τ S1).az λj S2=>match j with
 |.int i=>(fh τ S2).az λk S3=>(match u,k,t with
  |.hd n,.int c,.ls ys=>(match cK S3 n with|some l=>if 0<=i/\i<=c/\c<=l.length/\l.length+ys.length<=sizeLine then .ok τ (S3.set n (.bD (l.take i.toNat++ys++l.drop c.toNat))) else .ay|none=>.ay)
  |_,_,_=>.ay)
 |_=>.ay
section
variable {G:Gx}{k:Nat}{w:Wd}{X:Cx}{o:Expr}{fo fl fh:Em}{p2 pos:Pos}
theorem ads {lo hi:Expr}(ho:TV G k X o fo)(hl:TV G k X lo fl)(hh:TV G k X hi fh)(ha:∀v,assign (.Subscript o (.Slice (some lo) (some hi) none p2) pos) X.env v=(do
   let ov <-holding [v] (eval o X.env)
   let iv <-holding [v,ov] (eval (.Slice (some lo) (some hi) none p2) X.env)
   standAt pos
   holding [v,ov,iv] (setItem ov iv v)
   release [iv,v,ov] []):=by intro _;rfl):Ka G k X (.Subscript o (.Slice (some lo) (some hi) none p2) pos) (OJ fo fl fh):=.mk<|λox=>(Kv (ho ox) (Ae (hl ox)) (Ae (hh ox)) ha).wk λv σ H Q h=>by
 obtain⟨w,S,τ,t,hr,sl,r,q⟩:=h;refine⟨w,S,τ,hr,sl,(aZ.az q).mono λx H1 ⟨w1,S1,t1,cX,bH,r1,_,q1⟩=>?_⟩
 refine⟨w1,S1,τ,bH,sl.mono cX,(aZ.az q1).mono λy H2 ⟨w2,S2,t2,fj,dI,r2,_,q2⟩=>?_⟩
 split at q2
 ·rename_i _ i _
  refine⟨i,aK r2,w2,S2,τ,dI,(sl.mono cX).mono fj,(aZ.az q2).mono λz H3 ⟨w3,S3,t3,jb,nH,r3,_,q3⟩=>?_⟩
  split at q3
  ·rename_i n c ys _ _ _ _ _
   split at q3
   ·rename_i l el
    split at q3
    ·rename_i hc
     have r1':=(RT.mono (fj.trans jb) _ _ r1).cQ
     have r':=RT.mono ((cX.trans fj).trans jb) _ _ r
     unfold RT at r';obtain⟨b,zs,rfl,hF,rz⟩:=r';obtain⟨xs,h1,h2⟩:=nH.cell _ _ (cG el)
     have o_:w3.ρ n≠b:=λz=>by
      rw[<-z,nH.F] at hF;unfold Fz at hF;rw[if_pos (.inl ⟨n,⟨_,cG el,rfl⟩,rfl⟩)] at hF;cases hF
     refine⟨c,aK r3,_,b,xs,zs,i,c,r1'.2,rfl,h1,nH.sub _ _ hF,o_,rfl,rfl,hc.1,hc.2.1,by rw[h2.len];exact hc.2.2.1,by rw[h2.len,rz.len];exact hc.2.2.2,?_⟩
     exact q3 w3 _ _ (.refl _) (putL nH el (((h2.take _).sI rz).sI (h2.drop _))) (((sl.mono cX).mono fj).mono jb)
    ·exact q3.elim
   ·exact q3.elim
  ·exact q3.elim
 ·exact q2.elim
end
section
variable {G:Gx}{k:Nat}{w:Wd}{X:Cx}{ah:List (Addr×Obj)}{s:Shared}{σ:St}{H:Hp}
end
end L2
namespace L2
open PySem PySem.Spec PyProof.Rows
section
variable {prog:Program}{w:World}{A:Around}{E:Value->Shared->Prop}{s:Shared}
end
end L2
namespace L2
open PySem PySem.Spec PyProof.Rows
section
variable {X:Cx}{tg a:Expr}{ta:TA}{p2 Nh:Pos}
end
section
variable {G:Gx}{k:Nat}{X:Cx}{a tg:Expr}{fr:En->Cs->R (List Tr)}{p2 Nh:Pos}
end
section
variable {G:Gx}{k j n:Nat}{X:Cx}{f:Addr}{fd:FuncData}{ps:List Str}{q:Fn}{m c:Str}{pos eX:Pos}{e o:Expr}{es:List Expr}{fr:En->Cs->R (List Tr)}{fo:Em}{CX:BV}{pl:Sem Bool}
end
section
variable {X:Cx}{k:Nat}{g B C:Addr}{fd:FuncData}{ps:List Str}{sp:Sp}{e o aou:Expr}{es:List Expr}{ta:TE}{t:TA}{n m cB:Str}{l:Nat}{p cp ap np ep hp pos:Pos}{jK:List Stmt}{p_ a b:Stmt}{ts:TS}{tt:TT}
 {RX q':Str} {N':Addr} {RY Hu:List Value} {ow:Bool} {RZ:List Str} {xB:List Value} {R0:Bool} {xC:Option Bool} {BE:Option Addr} {j0 j1 j2 j3 j5:Option Value} {jT:String} {pl:Sem Bool} {T T1 T2:St->Hp->(Hp->Prop)->XK->Prop}
end
section
variable {K:W.Frag}{cl:Str->Addr}{k j n:Nat}{X:Cx}{f B:Addr}{fd:FuncData}{ps:List Str}{q:Fn}{m cB nn c:Str}{p cp ap np ep hp pos:Pos}{e o aou:Expr}{es:List Expr}{fr:En->Cs->R (List Tr)}{fo f1 f2:Em}{jK:List Stmt}{p_ a b:Stmt}{sh:Sm}{l:Nat}{cs:List Str}{tt:En->Cs->R Bool}
 {RX q':Str} {N':Addr} {RY Hu:List Value} {ow:Bool} {RZ:List Str} {xB:List Value} {R0:Bool} {xC:Option Bool} {BE:Option Addr} {j0 j1 j2 j3 j5:Option Value} {jT:String} {pl:Sem Bool}
end
noncomputable def xV:List Nat->List (List Nat)
 |[]=>[[]]
 |x::r=>xV r++(xV r).map (x::·)
def yt (σ:List Nat):Bool:=(xV [0,1,2,3,4]).contains σ && decide (σ.length<=4)
noncomputable def yV (b:Bool)(σ:List Nat):SetTable:={mask:=7,place:=σ.toArray,dummies:=#[],finger:=0,led:=b,moves:=0,plain:=true}
noncomputable def oY (σ:List Nat):Nat->Nat
 |0=>0
 |i+1=>σ.getD i 0+1
theorem ic (h:yt σ=true):σ ∈ xV [0,1,2,3,4] /\ σ.length<=4:=by
 unfold yt at h;simpa using h
theorem adt:((xV [0,1,2,3,4]).all λσ=>[0,1,2,3,4].all λn=>[true,false].all λb=>!((σ.all λx=>decide (x<n)) && decide (σ.length<=3)) || (decide ((yV b σ).freeSlot ((n:Nat):Int)=some (n,false)) && decide ((yV b σ).put n=(yV b (σ++[n]),σ.length)) && yt (σ++[n])))=true:=by decide +kernel
theorem OL (b:Bool)(h:σ ∈ xV [0,1,2,3,4])(hn:n<5)(hl:∀x ∈ σ,x<n)(h3:σ.length<=3):(yV b σ).freeSlot ((n:Nat):Int)=some (n,false)/\(yV b σ).put n=(yV b (σ++[n]),σ.length)/\yt (σ++[n])=true:=by
 have q:=zaQ.mp (zaQ.mp (zaQ.mp adt σ h) n (by simp;omega)) b (by cases b<;>simp)
 have c:((σ.all λx=>decide (x<n)) && decide (σ.length<=3))=true:=by simpa[h3] using hl
 rw[c] at q;simpa[and_assoc] using q
theorem Vh:((xV [0,1,2,3,4]).all λσ=>[0,1,2,3,4,5].all λi=>!decide (i <= σ.length) || SetTable.below σ.toArray (oY σ i) == i)=true:=by decide +kernel
theorem Kw (h:σ ∈ xV [0,1,2,3,4])(hi:i<6)(hl:i <= σ.length):SetTable.below σ.toArray (oY σ i)=i:=by
 have q:=zaQ.mp (zaQ.mp Vh σ h) i (by simp;omega)
 simpa[hl] using q
theorem kJ (h:yt σ=true)(e:n=σ.length):(yV b σ).fits n=true:=by
 have:=(ic h).2
 unfold SetTable.fits SetTable.fill yV;simp[e]
 omega
theorem OM (h:yt σ=true):(yV b σ).tooFull=false:=by
 have:=(ic h).2
 unfold SetTable.tooFull SetTable.fill yV;simp
 omega
theorem Vi {α:Type}(xs:Array α)(x:α):SetTable.insertAt xs xs.size x=xs.push x:=by
 unfold SetTable.insertAt;simp
theorem Vj (h:yt σ=true)(he:es.size=σ.length)(hn:n<5)(hl:∀y ∈ σ,y<n)(h3:σ.length<=3):
  layNew (yV b σ) es (n:Nat) x=(es.push ((n:Nat),x),yV b (σ++[n]),false,false)/\yt (σ++[n])=true:=by
 obtain⟨f1,f2,f3⟩:=OL b (ic h).1 hn hl h3
 have g:=kJ (b:=b) (n:=es.size+1) f3 (by simp[he])
 refine⟨?_,f3⟩
 unfold layNew;rw[f1];dsimp only;rw[f2];dsimp only;rw[<-he,Vi];unfold SetTable.orStandIn;rw[Array.size_push,g];rfl
theorem uS {α:Type}:∀{l:List α} {i:Nat} (h:i<l.length),(l[i]::l.eraseIdx i).Perm l
 |x::r,0,_=>by simp
 |x::r,i+1,h=>by
  have:=uS (l:=r) (i:=i) (by simpa using h)
  simp only[List.getElem_cons_succ,zex];exact (List.Perm.swap _ _ _).trans (this.cons x)
theorem Ih {α:Type}(next:Nat->Nat):∀(f k:Nat) (l:List α) (out:Array α),l.length=f->(pickOrder.go next f k l out).toList.Perm (out.toList++l)
 |0,k,l,out,h=>by
  have:l=[]:=List.eq_nil_of_length_eq_zero h
  subst this;simp[pickOrder.go]
 |f+1,k,l,out,h=>by
  have hp:next k % l.length<l.length:=Nat.mod_lt _ (by omega)
  unfold pickOrder.go;rw[zag hp];dsimp only;refine (Ih next f (k+1) _ _ (by rw[List.length_eraseIdx,if_pos hp];omega)).trans ?_
  rw[Array.toList_push,zcI];refine List.Perm.append_left _ ?_
  exact uS hp
theorem Ky {α:Type}(next:Nat->Nat)(xs:Array α):(pickOrder next xs).toList.Perm xs.toList:=by
 have:=Ih next xs.size 0 xs.toList #[] (by simp)
 simpa[pickOrder] using this
noncomputable abbrev qd (w:World):Bool:=w.params.followText "set-order"
def dN (w:World)(es:Array (Int×Value))(ep:Nat)(σ:List Nat):Obj:={ cls:=.type "set",dict:=none,data:=.set es ep (yV (!qd w) σ)}
inductive sZ:List (Int×Value)->List Nat->Prop
 |nil:sZ [] []
 |cons (n:Nat) (t:Tok) {r:List (Int×Value)} {σ:List Nat}:sZ r σ -> sZ ((((n:Nat):Int),.int ((n:Nat):Int) t)::r) (n::σ)
def qf (w:World)(h:Heap)(a:Addr)(σ:List Nat):Prop:=yt σ=true/\∃es ep,h.get? a=some (dN w es ep σ)/\sZ es.toList σ
theorem uU (h:n<5):hashInt ((n:Nat):Int)=((n:Nat):Int):=by
 rcases (show n=0\/n=1\/n=2\/n=3\/n=4 by omega) with rfl|rfl|rfl|rfl|rfl<;>decide +kernel
theorem Vk:((xV [0,1,2,3,4]).all λσ=>σ.all λn=>decide (n<5))=true:=by decide +kernel
theorem adu (h:yt σ=true):∀n ∈ σ,n<5:=λn hn=>by
 simpa using zaQ.mp (zaQ.mp Vk σ (ic h).1) n hn
theorem sZ.len (h:sZ l σ):l.length=σ.length:=by
 induction h with
 |nil=>rfl
 |cons n t _ ih=>simp[ih]
theorem sZ.snoc (h:sZ l σ)(n:Nat)(t:Tok):sZ (l++[(((n:Nat):Int),.int ((n:Nat):Int) t)]) (σ++[n]):=by
 induction h with
 |nil=>exact .cons n t .nil
 |cons m u _ ih=>exact .cons m u ih
theorem sZ.mem (h:sZ l σ):∀e∈l,∃(n:Nat) (t:Tok),n ∈ σ /\ e=(((n:Nat):Int),.int ((n:Nat):Int) t):=by
 induction h with
 |nil=>intro e he;simp at he
 |cons m u _ ih =>
  intro e he;rcases zam.mp he with rfl|he
  ·exact⟨m,u,by simp,rfl⟩
  ·obtain⟨n,t,hn,rfl⟩:=ih e he
   exact⟨n,t,by simp[hn],rfl⟩
theorem sZ.aov (h:sZ l σ):∀n ∈ σ,∃t:Tok,((((n:Nat):Int),.int ((n:Nat):Int) t):Int×Value)∈l:=by
 induction h with
 |nil=>intro e he;simp at he
 |cons m u _ ih =>
  intro n hn;rcases zam.mp hn with rfl|hn
  ·exact⟨u,by simp⟩
  ·obtain⟨t,ht⟩:=ih n hn
   exact⟨t,by simp[ht]⟩
noncomputable def n_ (σ:List Nat)(n:Nat):List Nat:=if n ∈ σ then σ else σ++[n]
theorem sZ.ajJ (h:sZ l σ)(hf:yt σ=true):ElemsOf (intKind prog w) l:=λe he=>by
 obtain⟨n,t,hn,rfl⟩:=h.mem e he;exact⟨⟨(n:Int),zei prog w _ _,(uU (adu hf n hn)).symm⟩,rfl⟩
theorem qf.eU (q:qf w h S σ)(k:∀o,h.get? S=some o->h'.get? S=some o):qf w h' S σ:= by
 obtain⟨f,es,ep,ho,he⟩:=q;exact⟨f,es,ep,k _ ho,he⟩
theorem Kz (hS:qf w s.heap a σ)(hn:n<5)(hl:n ∈ σ \/ (∀y ∈ σ,y<n) /\ σ.length<=3)
  (h:∀b h',Heap.SameBut a s.heap h'->qf w h' a (n_ σ n)->Q b {s with heap:=h' }):wpAny (model prog w) A (setAddHashed a (.int ((n:Nat):Int) t) ((intKind prog w).hash ((n:Nat):Int))) Q E s:=by
 obtain⟨ri,es,ep,ho,he⟩:=hS;have hd:(dN w es ep σ).data = .set es ep (yV (!qd w) σ):=rfl
 have hsz:es.size=σ.length:=by rw[<-zaW];exact he.len
 have hel:ElemsOf (intKind prog w) es.toList:=he.ajJ ri
 have hf:=kJ (b:=!qd w) ri hsz
 have h4:=(ic ri).2
 have hb:es.size<scanBound:=by unfold scanBound;omega
 have EW:(intKind prog w).is (n:Int) (.int (n:Int) t)=true:=zei prog w _ _
 unfold setAddHashed setAddHashedIn;refine zaz (zaa (zdo ho hd hf ?_))
 dsimp only;rw[byScan_of (knd:=intKind prog w) rfl hb hel];simp only[↓reduceIte];unfold setAddByScan;refine zaa ?_
 refine zaa (zcA ?_)
 refine zaa (wpAny_setScan_of EW ho hd hf hel ?_)
 cases hr:List.findIdx? (λe=>(intKind prog w).is (n:Int) e.2) es.toList with
 |some j =>
  dsimp only;obtain⟨hj,hpj,_⟩:=List.findIdx?_eq_some_iff_getElem.mp hr
  have hm:n ∈ σ:= by
   obtain⟨m,u,hm,e⟩:=he.mem _ (zcQ hj)
   rw[e] at hpj;have:(n:Int)=m:=(intKind prog w).inj _ _ _ hpj (zei prog w _ _)
   have:n=m:=by omega
   rw[this];exact hm
  refine zac (zac ?_)
  have e:s = {s with heap:=s.heap}:=by cases s;rfl
  rw[e];refine h _ s.heap (zfO a s.heap) ?_
  unfold n_;rw[if_pos hm];exact⟨ri,es,ep,ho,he⟩
 |none =>
  dsimp only;have hm:n ∉ σ:= λhm=>by
   obtain⟨u,hu⟩:=he.aov n hm
   have:=List.findIdx?_eq_none_iff.mp hr _ hu
   rw[zei] at this;exact Bool.noConfusion this
  obtain⟨hl,h3⟩:=hl.resolve_left hm;obtain⟨hL,hf1⟩:=Vj (b:=!qd w) (x:=.int ((n:Nat):Int) t) ri hsz hn hl h3
  have hh:(intKind prog w).hash (n:Int)=(n:Int):=uU hn
  rw[hh,hL];dsimp only;refine zaa (zac ?_)
  refine zaa (zac ?_)
  have hz:(es.push (((n:Nat):Int),Value.int ((n:Nat):Int) t)).size<=sizeLine:=by rw[Array.size_push,zbk];omega
  refine zaa (wpAny_storeSet_of ho hd ?_ hz)
  have hfu:(yV (!qd w) (σ++[n])).tooFull=false:=OM hf1
  simp only[Bool.not_false,zds,if_true,hfu,zaC,if_false];refine zac (zac (h _ _ (zbg ..) ?_))
  unfold n_;rw[if_neg hm];have hg:=zaA (Obj.putSet (es.push (((n:Nat):Int),Value.int ((n:Nat):Int) t)) (yV (!qd w) (σ++[n]))) ho (by rw[putSet_of _ _ hd];rfl)
  rw[putSet_of _ _ hd] at hg;exact⟨hf1,_,ep+1,hg,by rw[Array.toList_push];exact he.snoc n t⟩
def lY (ns:List Nat):List Nat:=ns.foldl n_ []
theorem uV (l:List Nat)(n:Nat):lY (l++[n])=n_ (lY l) n:=by
 unfold lY;rw[zcJ];rfl
theorem ON:x∈n_ σ n↔x ∈ σ \/ x=n:=by
 unfold n_;split
 ·rename_i h
  exact⟨.inl,λq=>q.elim id λe=>e ▸ h⟩
 ·simp
theorem yW:∀(l σ:List Nat) (x:Nat),x∈l.foldl n_ σ ↔ x ∈ σ \/ x∈l
 |[],σ,x=>by simp
 |n::r,σ,x=>by
  rw[zaT,yW r,ON,zam];exact or_assoc
theorem s_:x∈lY l↔x∈l:=by
 unfold lY;rw[yW];simp
theorem OO (σ:List Nat)(n:Nat):σ.length<=(n_ σ n).length:=by
 unfold n_;split
 ·exact zaf _
 ·simp
theorem yX:∀(l σ:List Nat),σ.length<=(l.foldl n_ σ).length
 |[],σ=>zaf _
 |n::r,σ=>zah (OO σ n) (yX r _)
theorem OP (ns:List Nat)(i:Nat):(lY (ns.take i)).length<=(lY ns).length:=by
 have:=yX (ns.drop i) (lY (ns.take i))
 unfold lY at this ⊢
 rwa[<-zcJ,List.take_append_drop] at this
def xW (ns:List Nat):Prop:=ns.Pairwise (· <= ·)/\(∀n∈ns,n<5)/\(lY ns).length<=4
instance (ns:List Nat):Decidable (xW ns):=by unfold xW;exact inferInstance
theorem xW.gR (h:xW ns)(hi:ns[i]? = some n):n<5/\lY (ns.take (i+1))=n_ (lY (ns.take i)) n/\(n∈lY (ns.take i)\/(∀y∈lY (ns.take i),y<n)/\(lY (ns.take i)).length<=3):=by
 obtain⟨hp,h5,h4⟩:=h;obtain⟨jD,rfl⟩:=zae.mp hi
 have e:lY (ns.take (i+1))=n_ (lY (ns.take i)) ns[i]:=by rw[<-uV,List.take_append_getElem]
 refine⟨h5 _ (zcQ jD),e,?_⟩
 by_cases hm:ns[i]∈lY (ns.take i)
 ·exact .inl hm
 ·refine .inr ⟨λy hy=>?_,?_⟩
  ·have hy':=s_.mp hy
   obtain⟨j,hj,rfl⟩:=zfe.mp hy';have EG:j<i:=by
    have:=hj
    rw[zaU] at this;omega
   have:=zej.mp hp j i (by omega) jD EG
   rw[List.getElem_take];have o_:ns[j]≠ns[i]:=λz=>hm (by rw[<-z];have:=s_.mpr hy';rwa[List.getElem_take] at this)
   omega
  ·have:=OP ns (i+1)
   rw[e] at this;unfold n_ at this;rw[if_neg hm,zan,zbj] at this;omega
section
variable {prog:Program}{w:World}{A:Around}{R:Result->Shared->Prop}{I:Addr}{fp wr:List Addr}{G:Array GenState->Array GenState->Prop}{n:Nat}{P:Nat->Value->Prop}{St:Nat->Shared->Prop}
theorem F3 (W:WalksS prog w A.in1 I fp wr G n P St)(S:Addr)(Np:S∉fp)(B6:xW ns)(hln:ns.length=n)(Nq:∀i v,P i v->∃m t,ns[i]? = some m/\v = .int ((m:Nat):Int) t)(j:Nat):
  ∀(i:Nat) (s:Shared),n=i+j->St i s->qf w s.heap S (lY (ns.take i)) ->
   (∀s',Moved (S::wr) G s s'->qf w s'.heap S (lY ns)->R (.ok (.ret .none)) s')->codeAny (model prog w) A (.builtin "set.update.loop" ⟨[.ref S,.ref I],[]⟩) R s:=by
 have hSw:S∉wr:=λh=>Np (W.sub _ h)
 induction j with
 |zero =>
  intro i s hi om hS hR;subst hi;refine zbO zey ?_
  rw[zbB zdn _];refine zaa (W.done s _ _ om λs' hm=>?_)
  rw[zbd (by omega)] at hS
  exact zac (hR s' (hm.mono λb hb=>zaJ _ hb) (hS.eU λo ho=>hm.heap S o hSw ho))
 |succ j ih =>
  intro i s hi om hS hR;refine zbO zey ?_
  rw[zbB zdn _];refine zaa (W.item i s _ _ (by omega) om λv s' hP abN hm=>?_)
  obtain⟨m,t,hm1,rfl⟩:=Nq i v hP;obtain⟨m5,me,ml⟩:=B6.gR hm1;have LL:qf w s'.heap S (lY (ns.take i)):=hS.eU λo ho=>hm.heap S o hSw ho
  refine zaa (zaz ?_)
  unfold setAdd;refine zaz ?_
  refine zaa ((intKind prog w).pyHash (k:=((m:Nat):Int)) (zei _ _ _ _) ?_)
  refine Kz (s:={s' with toks:=s'.toks+1}) LL m5 ml λb h' MW yI=>?_
  rw[<-me] at yI;refine zac ⟨zcU zdn _,ih (i+1) _ (by omega) (W.frame _ s' _ _ abN (zbc _) λb hb o e=>?_) yI λs'' abO abP=>?_⟩
  ·rw[MW.2 b (λz:b=S=>Np (by rw[<-z];exact hb))];exact e
  ·refine hR s'' (Moved.trans W.gtrans ((hm.mono λb hb=>zaJ _ hb).then_heap (zbc _) λb o hb e=>?_) abO) abP
   rw[MW.2 b (λz:b=S=>hb (by rw[z];exact zbI))];exact e
end
theorem xX (a:Value)(h:Q₁ (.ref s.heap.objs.size) {s with heap:=s.heap.push (jn (!qd w))}):
  codeAny (model prog w) A (.call (.builtin "set.__new__") ⟨[.type "set",a],[]⟩) (wants Q₁ E) s:=by
 refine zeG ?_
 show wpAny _ A.in1 (do checkBuiltinCall "set.__new__" ⟨[.type "set",a],[]⟩;again (.builtin "set.__new__" ⟨[.type "set",a],[]⟩)) _ _ s
 refine zaa (zdp (F.newCall_set_1 a) (zac ⟨zcU F.plain_set_new _,zbO F.entry_set_new ?_⟩))
 rw[zbB F.plain_set_new _];unfold Builtin.«set.__new__» Builtin.Frozenset.newClass
 have uf:=sub_set_self;obtain⟨hp,g,d,tk,os⟩:=s;dsimp only;wp_walk
 refine zcR (zac ?_)
 dsimp only;simp only[newObj];refine zaa (wpAny_alloc (zac ?_))
 exact zac h
theorem OQ (e:h.get? a=some (jn (!qd w))):qf w h a []:=⟨by decide,#[],0,e,.nil⟩
theorem uW (hh:A.handled=none)(hl:s.heap.IsList l items)
  (hi:∀(i:Nat) v,items[i]? = some v->∃m t,ns[i]? = some m/\v=Value.int ((m:Nat):Int) t) (hln:ns.length=items.size) (B6:xW ns)
  (h:∀(h':Heap) (tk:Nat),qf w h' s.heap.objs.size (lY ns)->(∀b o,s.heap.get? b=some o->h'.get? b=some o)->Q (.ref s.heap.objs.size) {s with heap:=h',toks:=tk}):
  wpAny (model prog w) A (call (.type "set") [.ref l]) Q E s:=by
 obtain⟨c,tl,auA⟩:=zct.mro;have aqt:=zct.made;have uf:=zct.sub;have h1:=zct.notType;have h2:=zct.canCreate;have hct:=F.typeCall_set_1 (.ref l)
 have hli:=zct.init.lookup;have hbi:=zct.init.bind (.ref s.heap.objs.size)
 obtain⟨ol,hol,hcl,nl,hdl⟩:=hl;obtain⟨auB,ajK,aqw,adv⟩:=ol;simp only at hcl hdl
 subst hcl;subst hdl;have hlS:l<s.heap.objs.size:=zaj hol
 refine zdj (zeG ?_)
 show wpAny _ _ (callAny (.type "set") _) _ _ _
 refine zac ⟨Code.quiet_builtin _ (by decide +kernel),zbO F.entry_type_call ?_⟩
 rw[Around.under_plain (weight_type_call_type "set" [.ref l] []) rfl]
 repeat (any_goals (first|assumption|wp_step))
 refine zcp (xX (.ref l) (E:=E) (Q₁:= λj8 cD=>j8 = .ref s.heap.objs.size/\cD = {s with heap:=s.heap.push (jn (!qd w))}) ⟨rfl,rfl⟩) λr cD hr=>?_
 cases r with
 |error e=>exact hr
 |ok fl =>
  cases fl with
  |ret j8 =>
   obtain⟨rfl,rfl⟩:=hr;have hS:(s.heap.push (jn (!qd w))).get? s.heap.objs.size=some (jn (!qd w)):=zak _ rfl
   have hT:Shared.TypeIs {s with heap:=s.heap.push (jn (!qd w))} (.ref s.heap.objs.size) "set" := ⟨_,hS,rfl⟩
   have Nr:(s.heap.push (jn (!qd w))).get? l=some { cls:=.type "list",dict:=ajK,data:=.seq items nl,slots:=adv}:=zab _ hol
   repeat (any_goals (first|assumption|wp_step))
   refine zcp (zdB (R:=wants (λr j7=>r = .none/\∃h' tk,j7 = {s with heap:=h',toks:=tk}/\qf w h' s.heap.objs.size (lY ns)/\(∀b o,s.heap.get? b=some o->h'.get? b=some o)) E) zct.init.plain F.entry_set_init (check_set_init_1 hT ?_)) λaow j7 OR=>?_
   ·have auC:=F.sub_list_set
    have auD:=F.sub_list_frozenset;have o_:(Value.type "list" == Value.type "dict")=false:=by decide
    have Nt:(s.heap.push (jn (!qd w))).IsList l items:=⟨_,Nr,rfl,nl,rfl⟩
    unfold Builtin.«set.__init__» noKeywords Builtin.Frozenset.updateFrom
    generalize hPI:pyIter=PI
    wp_walk
    subst hPI;refine zbS Nt ?_
    refine zaa (wpAny_runValue ?_)
    have abR:l≠(s.heap.push (jn (!qd w))).objs.size:=by rw[zbp];exact zao (zbD hlS)
    have Np:s.heap.objs.size∉[(s.heap.push (jn (!qd w))).objs.size,l]:=by
     rw[zbp];simp only[zam,zav,or_false,not_or];exact⟨zao (zbb _),zbv hlS⟩
    refine F3 ((Walks.list (by simp[hh]) _ l abR items).toS) s.heap.objs.size Np B6 hln (λi v hv=>hi i v hv) items.size 0 _ (by omega)
     ⟨⟨_,zak _ rfl,rfl,rfl⟩,(Nt.push _)⟩ (OQ (zab _ hS)) ?_
    intro s' hm LL;obtain⟨h',g',d',WZ,os'⟩:=s';have eg:g'=s.gens:=hm.gens
    have ed:d'=s.drawn:=hm.drawn
    have eo:os'=s.os:=hm.os
    subst eg;subst ed;subst eo;show wpAny _ _ _ _ _ _
    refine zac ?_
    show wpAny _ _ (ret Value.none) _ _ _
    refine zac ⟨rfl,h',WZ,rfl,LL,λb o e=>?_⟩
    have hb0:=zaj e;have hb2:b≠(s.heap.push (jn (!qd w))).objs.size:=by rw[zbp];exact zao (zbD hb0)
    exact hm.heap b o (by simp only[zam,zav,or_false,not_or];exact⟨zao hb0,hb2⟩) (zab _ (zab _ e))
   ·cases aow with
    |error e=>exact OR
    |ok ajL =>
     cases ajL with
     |ret r =>
      obtain⟨rfl,h',tk,rfl,LL,hk'⟩:=OR;repeat (any_goals (first|assumption|wp_step))
      exact h _ _ LL hk'
     |_=>exact OR.elim
  |_=>exact hr.elim
theorem fQ:Slot "set_iterator" "__next__" "set_iterator.__next__" :=
 .of (owner:= "set_iterator") (n:= "__next__") (by rw[typeLookup_type,builtinLookup_eq_fast];kernel_rfl) (by decide +kernel) (by decide +kernel) (by decide +kernel)
  (by first|exact .inl (by decide +kernel)|exact .inr (by decide +kernel)) (by rw[zeZ];kernel_rfl)
theorem qg:Slot "set_iterator" "__iter__" "set_iterator.__iter__" :=
 .of (owner:= "set_iterator") (n:= "__iter__") (by rw[typeLookup_type,builtinLookup_eq_fast];kernel_rfl) (by decide +kernel) (by decide +kernel) (by decide +kernel)
  (by first|exact .inl (by decide +kernel)|exact .inr (by decide +kernel)) (by rw[zeZ];kernel_rfl)
theorem oG:entryFor table "set_iterator.__next__"=some Builtin.«set_iterator.__next__»:= entryFor_of_tree (by kernel_rfl)
theorem xY:entryFor table "set_iterator.__iter__"=some Builtin.«dict_keyiterator.__iter__»:=
 entryFor_alias (id':= "dict_keyiterator.__iter__") (by kernel_rfl) rfl (by decide +kernel) (by kernel_rfl)
theorem uX:entryFor table "set.__iter__"=some Builtin.«frozenset.__iter__»:=
 entryFor_alias (id':= "frozenset.__iter__") (by kernel_rfl) rfl (by decide +kernel) (by kernel_rfl)
theorem qh (a:Value):argsOk "set_iterator.__next__" ⟨[a],[]⟩:=by unfold argsOk;kernel_rfl
theorem A6 (a:Value):argsOk "set_iterator.__iter__" ⟨[a],[]⟩:=by unfold argsOk;kernel_rfl
noncomputable def nj (w:World)(a:Addr)(ep:Nat)(es:Array (Int×Value)):Array (Int×Value):=if qd w then pickOrder (w.params.setOrder a ep) es else es
def gY (w:World)(σ:List Nat)(i:Nat):Nat:=if qd w then 0 else oY σ i
theorem yY:(nj w a ep es).toList.Perm es.toList:=by
 unfold nj;split
 ·exact Ky _ _
 ·exact .refl _
theorem nJ:(nj w a ep es).size=es.size:=by
 have:=(yY (w:=w) (a:=a) (ep:=ep) (es:=es)).length_eq
 simpa using this
def gh (w:World)(σ:List Nat)(a:Addr)(n ep i:Nat):Obj:={ cls:=.type "set_iterator",data:=.fields #[rawInt (gY w σ i:Nat),rawInt (i:Nat),.ref a,rawInt (n:Nat),rawInt (ep:Nat)]}
section
variable {prog:Program}{w:World}{A:Around}{E:Value->Shared->Prop}{s:Shared}
theorem F4 (ri:yt σ=true)(ho:s.heap.get? a=some (dN w es ep σ))(he:sZ es.toList σ)
  (h:Q (.ref s.heap.objs.size) {s with heap:=s.heap.push (gh w σ a es.size ep 0)}):wpAny (model prog w) A (pyIter (.ref a)) Q E s:=by
 have hd:(dN w es ep σ).data = .set es ep (yV (!qd w) σ):=rfl
 have hsz:es.size=σ.length:=by rw[<-zaW];exact he.len
 have hf:=kJ (b:=!qd w) ri hsz
 have hT:s.TypeIs (.ref a) "set" := ⟨_,ho,rfl⟩
 refine zeb hT F.slot_set_iter (zaF F.slot_set_iter hT uX ?_ (F.args_set_iter_1 _))
 unfold Builtin.«frozenset.__iter__» Builtin.Frozenset.slot0 slotArgs
 simp only[List.isEmpty_nil,Bool.not_true,zaC,↓reduceIte,bind_assoc,zbm,bne_self_eq_false];unfold Builtin.Frozenset.addrOf Builtin.Frozenset.sizeOf;refine zaa (zac ?_)
 try dsimp only
 refine zaa (zac ?_)
 refine zaa (zaa (zdH ho hd hf (zac ?_)))
 unfold setDrawn;refine zaa (zaa (zdo ho hd hf ?_))
 unfold setsByText;refine zaa (zaa (zcR (zac ?_)))
 refine zac ?_
 generalize hb:(!_ && _)=b
 have b0:b=false:=by
  subst hb;exact Bool.and_false _
 subst b0;simp only[zaC,if_false];have e:gY w σ 0=0:=by unfold gY oY;split<;>rfl
 unfold gh at h;rw[e] at h;exact zaa (zac (zaa (wpAny_setEpoch_of ho hd hf (zaa (zaB (zac ⟨_,rfl,"set_iterator",_,⟨_,zak _ rfl,rfl⟩,fQ.lookup,h⟩))))))
end
theorem CS (ri:yt σ=true)(ho:s.heap.get? a=some (dN w es ep σ))(he:sZ es.toList σ)(hi:i<=es.size)
  (h:Q (((nj w a ep es)[i]?).map λe=>(e.2,gY w σ (i+1))) s):wpAny (model prog w) A (setNext a (gY w σ i) i ep) Q E s:=by
 have hd:(dN w es ep σ).data = .set es ep (yV (!qd w) σ):=rfl
 have hsz:es.size=σ.length:=by rw[<-zaW];exact he.len
 have hf:=kJ (b:=!qd w) ri hsz
 have h4:=ic ri;unfold setNext;refine zaa (zdo ho hd hf ?_)
 unfold setsByText;refine zaa (zaa (zcR (zac ?_)))
 dsimp only;have eM:(model prog w).w.params.followText "set-order"=qd w:=rfl
 rw[eM];cases ht:qd w with
 |true =>
  have e1:nj w a ep es=pickOrder (w.params.setOrder a ep) es:=by unfold nj;rw[ht];rfl
  have e2:gY w σ (i+1)=gY w σ i:=by unfold gY;rw[ht];rfl
  rw[e1,e2] at h;simp only[if_true,bne_self_eq_false,zaC,if_false];unfold setWalk;refine zaa (zaa (zdo ho hd hf ?_))
  unfold setsByText;refine zaa (zaa (zcR (zac ?_)))
  dsimp only;rw[eM,ht];simp only[if_true];exact zaa (zcR (zac (zac h)))
 |false =>
  have e1:nj w a ep es=es:=by unfold nj;rw[ht];rfl
  have e2:gY w σ i=oY σ i:=by unfold gY;rw[ht];rfl
  have e3:gY w σ (i+1)=σ.getD i 0+1:=by unfold gY;rw[ht];rfl
  have e4:=Kw h4.1 (i:=i) (by omega) (by omega)
  rw[e1,e3] at h;rw[e2];simp only[zaC,if_false];split
  ·rename_i hc
   exact Bool.noConfusion (show false=true from hc)
  ·refine zaa (zdp (a:=()) rfl (zac ?_))
   show Q (match es[SetTable.below σ.toArray (oY σ i)]?,(σ.toArray)[SetTable.below σ.toArray (oY σ i)]? with|some (_,x),some j=>some (x,j+1)|_,_=>none) s
   rw[e4];by_cases jD:i<es.size
   ·rw[zco jD] at h ⊢
    have hs:(σ.toArray)[i]? = some (σ.getD i 0):=by
     have An:i<σ.length:=by omega
     rw[List.getElem?_toArray,zcV,zag An];rfl
    rw[hs];exact h
   ·rw[zcb (by omega)] at h ⊢
    exact h
theorem F5 (hI:s.heap.get? I=some (gh w σ a es.size ep i))(ri:yt σ=true)(ho:s.heap.get? a=some (dN w es ep σ))(he:sZ es.toList σ)
  (hx:(nj w a ep es)[i]? = some e) (h:∀h',h'.get? I=some (gh w σ a es.size ep (i+1))->Heap.SameBut I s.heap h'->Q (some e.2) {s with heap:=h' }):wpAny (model prog w) A (pyNext (.ref I)) Q E s:=by
 have hd:(dN w es ep σ).data = .set es ep (yV (!qd w) σ):=rfl
 have hsz:es.size=σ.length:=by rw[<-zaW];exact he.len
 have hf:=kJ (b:=!qd w) ri hsz
 have Vl:s.TypeIs (.ref I) "set_iterator" := ⟨_,hI,rfl⟩
 have hi:i<es.size:=by
  have:=(zcT.mp hx).1
  rwa[nJ] at this
 unfold pyNext;refine zaa (zcz (zaH (name:=Str.ofString "__next__") Vl fQ (zaF fQ Vl oG ?_ (qh _))))
 show wpAny _ _ (fieldsOf (.ref I) >>= _) _ _ s
 refine zaa (zdN hI rfl ?_)
 show wpAny _ _ (setEntries a >>= _) _ _ s
 refine zaa (zdH ho hd hf ?_)
 rw[if_neg (by simp)]
 show wpAny _ _ (setNext a (gY w σ i) i ep >>= _) _ _ s
 refine zaa (CS ri ho he (zdw hi) ?_)
 rw[hx];show wpAny _ _ (setField (.ref I) 0 (rawInt ((gY w σ (i+1):Nat):Int)) >>= _) _ _ s
 have g1:(s.heap.update I (Obj.mapFields (·.setIfInBounds 0 (rawInt ((gY w σ (i+1):Nat):Int))))).get? I=some { cls:=.type "set_iterator",data:=.fields #[rawInt ((gY w σ (i+1):Nat):Int),rawInt (i:Nat),.ref a,rawInt (es.size:Nat),rawInt (ep:Nat)]}:=zaA _ hI rfl
 refine zaa (zbr hI rfl (by simp) ?_)
 show wpAny _ _ (setField (.ref I) 1 (rawInt (((i+1:Nat):Nat):Int)) >>= _) _ _ _
 have g2:=zaA (Obj.mapFields (·.setIfInBounds 1 (rawInt ((i+1:Nat):Int)))) g1 rfl
 refine zaa (zbr (s:={s with heap:=s.heap.update I (Obj.mapFields (·.setIfInBounds 0 (rawInt ((gY w σ (i+1):Nat):Int))))}) g1 rfl (by simp) (zac ⟨e.2,rfl,zac (h _ g2 ((zbg ..).trans (zbg ..)))⟩))
theorem KA (hh:A.handled=none)(hI:s.heap.get? I=some (gh w σ a es.size ep es.size))(ri:yt σ=true)(ho:s.heap.get? a=some (dN w es ep σ))(he:sZ es.toList σ)
  (h:∀h',Heap.ExtBut I s.heap h'->Q none {s with heap:=h' }):wpAny (model prog w) A (pyNext (.ref I)) Q E s:=by
 have hd:(dN w es ep σ).data = .set es ep (yV (!qd w) σ):=rfl
 have hsz:es.size=σ.length:=by rw[<-zaW];exact he.len
 have hf:=kJ (b:=!qd w) ri hsz
 have Vl:s.TypeIs (.ref I) "set_iterator" := ⟨_,hI,rfl⟩
 have hx:(nj w a ep es)[es.size]? = none:=zcb (by rw[nJ];exact zaf _)
 unfold pyNext;refine zaa (zcz (zaH (name:=Str.ofString "__next__") Vl fQ (zaF fQ Vl oG ?_ (qh _))))
 show wpAny _ _ (fieldsOf (.ref I) >>= _) _ _ s
 refine zaa (zdN hI rfl ?_)
 show wpAny _ _ (setEntries a >>= _) _ _ s
 refine zaa (zdH ho hd hf ?_)
 rw[if_neg (by simp)]
 show wpAny _ _ (setNext a (gY w σ es.size) es.size ep >>= _) _ _ s
 refine zaa (CS ri ho he (zaf _) ?_)
 rw[hx];show wpAny _ _ (setField (.ref I) 2 .none >>= _) _ _ s
 refine zaa (zbr hI rfl (by simp) ?_)
 show wpAny _ _ (newExc (.type "StopIteration") [] >>= _) _ _ _
 refine zaa ?_
 simp only[newExc,newTuple];refine zaa (zaB ?_ (by size_fits))
 refine zaa (m:=firstArgMember _ _) (zdp (a:=Value.none) (by first|rfl | (simp only[firstArgMember];rfl)) ?_)
 refine zaB ?_ (by size_fits)
 simp only[raiseNew];refine zaa (wpAny_handled ?_)
 rw[show A.in1.handled=none from hh];refine zaa (zac (wpAny_throw ?_))
 refine zaa (zcP (T:= "StopIteration") (b:=true) ⟨_,zak _ rfl,rfl⟩ zdM ?_)
 exact zac (h _ (((zbg ..).extBut.push _).push _))
theorem F6 (hI:s.heap.get? I=some (gh w σ a n ep i))(h:Q (.ref I) s):wpAny (model prog w) A (pyIter (.ref I)) Q E s:=by
 have Vl:s.TypeIs (.ref I) "set_iterator" := ⟨_,hI,rfl⟩
 refine zeb Vl qg (zaF qg Vl xY ?_ (A6 _))
 show wpAny _ _ (ret (.ref I)) _ _ s
 exact zac ⟨_,rfl,"set_iterator",_,Vl,fQ.lookup,h⟩
theorem CT (hh:A.handled=none)(I a:Addr)(o_:a≠I)(ri:yt σ=true)(he:sZ es.toList σ):
  Walks prog w A I [I,a] [I] es.size (λi v=>∃e,(nj w a ep es)[i]? = some e/\v=e.2) (λi h=>h.get? I=some (gh w σ a es.size ep i)/\h.get? a=some (dN w es ep σ)) where
 sub:=λb hb=>by simp at hb;simp[hb]
 frame:=λ_ _ _ st hk=>⟨hk I (by simp) _ st.1,hk a (by simp) _ st.2⟩
 item:=λi s Q E hi st hQ=>by
  obtain⟨e,hx⟩:∃e,(nj w a ep es)[i]? = some e:=⟨(nj w a ep es)[i]'(by rw[nJ];exact hi),by simp⟩
  refine F5 st.1 ri st.2 he hx λh' TX hs'=>?_
  exact hQ e.2 h' s.toks ⟨e,hx,rfl⟩ ⟨TX,hs'.extBut a _ o_ st.2⟩ λb o hb e=>hs'.extBut b o (λh=>hb (by simp[h])) e
 done:=λs Q E st hQ=>KA hh st.1 ri st.2 he λh' he'=>hQ h' s.toks λb o hb e=>he' b o (λh=>hb (by simp[h])) e
 self:=λ_ _ _ _ st hQ=>F6 st.1 hQ
theorem x_ (hh:A.handled=none)(ri:yt σ=true)(ho:s.heap.get? a=some (dN w es ep σ))(he:sZ es.toList σ)
  (h:∀(h':Heap) (tk:Nat) (bO:Array Value),(∀b o,s.heap.get? b=some o->h'.get? b=some o)->s.heap.objs.size<=h'.objs.size->ItemsOf (λi v=>∃e,(nj w a ep es)[i]? = some e/\v=e.2) bO es.size->Q bO.toList {s with heap:=h',toks:=tk}):wpAny (model prog w) A (collect (.ref a)) Q E s:=by
 have ha:a<s.heap.objs.size:=zaj ho
 have hsz:es.size=σ.length:=by rw[<-zaW];exact he.len
 have h4:=(ic ri).2
 have hn:es.size<=sizeLine:=by rw[zbk];omega
 unfold collect;refine zaa (wpAny_runValue (zbO F.entry_proto_collect ?_))
 rw[zbB F.plain_proto_collect _];show wpAny _ A.in1 (newList [] >>= λl=>again (.builtin "list.__iadd__" ⟨[l,.ref a],[]⟩)) _ _ s
 refine zaa (zaB ?_)
 refine zac ⟨zcU F.plain_list_iadd _,zbO F.entry_list_iadd ?_⟩
 rw[zbB F.plain_list_iadd _];have Xn:(s.heap.push { cls:=.type "list",data:=.seq ([]:List Value).toArray}).get? s.heap.objs.size=some { cls:=.type "list",data:=.seq ([]:List Value).toArray}:=zak _ rfl
 have ho1:(s.heap.push { cls:=.type "list",data:=.seq ([]:List Value).toArray}).get? a=some (dN w es ep σ):=zab _ ho
 generalize hH1:s.heap.push { cls:=.type "list",data:=.seq ([]:List Value).toArray}=H1 at Xn ho1 ⊢
 have z1:H1.objs.size=s.heap.objs.size+1:=by rw[<-hH1,size_push']
 show wpAny _ A.in1 (Builtin.List.listExtendWith (.ref s.heap.objs.size) (.ref a) (.ref s.heap.objs.size)) _ _ _
 have h1:Builtin.List.listSameRef (.ref s.heap.objs.size) (.ref a)=false:=by
  have:s.heap.objs.size≠a:=zbv ha
  simp[Builtin.List.listSameRef,this]
 unfold Builtin.List.listExtendWith;refine zaa (zcK (T:= "set") ⟨_,ho1,rfl⟩ ?_)
 rw[if_neg (by rw[h1];decide)]
 refine zaa (F4 (s:={s with heap:=H1}) ri ho1 he ?_)
 have RQ:(H1.push (gh w σ a es.size ep 0)).get? a=some (dN w es ep σ):=zab _ ho1
 have OS:(H1.push (gh w σ a es.size ep 0)).get? s.heap.objs.size=some { cls:=.type "list",data:=.seq ([]:List Value).toArray}:=zab _ Xn
 have hI:(H1.push (gh w σ a es.size ep 0)).get? H1.objs.size=some (gh w σ a es.size ep 0):=zak _ rfl
 generalize hH2:H1.push (gh w σ a es.size ep 0)=H2 at RQ OS hI ⊢
 refine zaa (zaz ?_)
 unfold Builtin.List.listLengthHint;have hT:Shared.TypeIs {s with heap:=H2} (.ref a) "set" := ⟨_,RQ,rfl⟩
 refine zaa (zdy hT F.slot_set_len.lookup ?_)
 (generalize hid:("set.__len__" : String)=id0;(fail_if_success (clear hid id0));wp_delta;rw[show splitId id0=some ("set","__len__") from by subst hid;decide +kernel];subst hid)
 refine zaa (zcP (b:=true) hT (by rw[zeZ];kernel_rfl) ?_)
 refine zaa (zcK hT (zac ?_))
 show wpAny _ A.in1 (rule "list.extend.makes-room" >>= λ_=>Builtin.List.listTouch (.ref s.heap.objs.size) >>= λ_ =>
  again (.builtin "list.extend.loop" ⟨[.ref s.heap.objs.size,.ref H1.objs.size,.ref s.heap.objs.size],[]⟩)) _ _ _
 refine zaa (zcA ?_)
 refine zaa ?_
 show wpAny _ A.in1 (updateSeq s.heap.objs.size (·.push .none) >>= λ_=>updateSeq s.heap.objs.size (·.pop)) _ _ _
 refine zaa (zeE OS rfl ?_)
 have Xo:=zaA (Obj.mapSeq (·.push Value.none)) OS rfl
 refine zeE Xo rfl ?_
 have ajN:=zaA (Obj.mapSeq (·.pop)) Xo rfl
 have rY:∀b o,b≠s.heap.objs.size->H2.get? b=some o->((H2.update s.heap.objs.size (Obj.mapSeq (·.push Value.none))).update s.heap.objs.size (Obj.mapSeq (·.pop))).get? b=some o:=
  λb o hb e=>(zaE _ _ (zbe hb)).trans ((zaE _ _ (zbe hb)).trans e)
 have hSI:s.heap.objs.size≠H1.objs.size:=by omega
 have W:=(CT (prog:=prog) (w:=w) (A:=A.in1) (by simp[hh]) H1.objs.size a (by rw[z1];exact zao (zbD ha)) ri he (ep:=ep)).toS
 have Np:s.heap.objs.size∉[H1.objs.size,a]:=by
  simp only[zam,zav,or_false,not_or];exact⟨hSI,zbv ha⟩
 refine zac ⟨zcU F.plain_extend_loop _,codeAny_extend_loopS W hn _ Np _ es.size 0 _ _ _ rfl (zbM _) ⟨rY _ _ (zbe hSI) hI,rY _ _ (zao ha) RQ⟩ ajN (ItemsOf.nil _) λs' AX c' hm LL OT=>?_⟩
 show wpAny _ A (load s.heap.objs.size >>= _) _ _ s'
 refine zaa (wpAny_load LL ?_)
 obtain⟨h',g',d',WZ,os'⟩:=s';have eg:g'=s.gens:=hm.gens
 have ed:d'=s.drawn:=hm.drawn
 have eo:os'=s.os:=hm.os
 subst eg;subst ed;subst eo;refine zac (h h' WZ AX (λb o e=>?_) (zdw (zaj LL)) OT)
 have hb:=zaj e;refine hm.heap b o (by simp only[zam,zav,or_false,not_or];exact⟨zao hb,by rw[z1];exact zao (zbD hb)⟩) (rY b o (zao hb) ?_)
 rw[<-hH2];refine zab _ ?_
 rw[<-hH1];exact zab _ e
noncomputable abbrev f9 (σ:List Nat):List Int:=σ.map λ(n:Nat)=>(n:Int)
theorem Vm:((xV [0,1,2,3,4]).all λσ=>decide (σ.Pairwise (· <= ·)))=true:=by decide +kernel
theorem adx (h:yt σ=true):(f9 σ).Pairwise (· <= ·):=by
 have q:σ.Pairwise (· <= ·):=by simpa using zaQ.mp Vm σ (ic h).1
 unfold f9;rw[zed];exact q.imp λh=>by omega
theorem sZ.ady (h:sZ l σ):l.map (·.1)=f9 σ:= by
 induction h with
 |nil=>rfl
 |cons n t _ ih=>simp[ih]
theorem uY:∀(l:List (Int×Value)),(∀e∈l,∃t,e.2 = .int e.1 t)->IntsAre (l.map (·.2)) (l.map (·.1))
 |[],_=>.nil
 | (n,v)::r,h=>by
  obtain⟨t,e⟩:=h (n,v) (by simp)
  have e:v = .int n t:=e
  subst e;exact .cons n t (uY r λe he=>h e (by simp[he]))
theorem OU (he:sZ es.toList σ)(h:ItemsOf (λi v=>∃e,(nj w a ep es)[i]? = some e/\v=e.2) bO es.size):
  ∃ns,IntsAre bO.toList ns/\ns.Perm (f9 σ):=by
 have p:=yY (w:=w) (a:=a) (ep:=ep) (es:=es)
 have e:bO.toList=(nj w a ep es).toList.map (·.2):=by
  apply List.ext_getElem?
  intro i;rw[zar,zce,zce];by_cases hi:i<es.size
  ·have h1:i<bO.size:=by rw[h.1];exact hi
   obtain⟨e,he,hv⟩:=h.2 i bO[i] (by simp)
   rw[he,zco h1,hv];rfl
  ·rw[zcb (by rw[h.1];omega),zcb (by rw[nJ];omega)]
   rfl
 refine⟨(nj w a ep es).toList.map (·.1),by
  rw[e];refine uY _ λx hx=>?_
  obtain⟨n,t,_,rfl⟩:=he.mem x (p.mem_iff.mp hx)
  exact⟨t,rfl⟩,?_⟩
 rw[<-he.ady];exact p.map _
theorem A7 (hh:A.handled=none)(hS:qf w s.heap a σ)
  (h:∀(l:Addr) (h':Heap) (tk:Nat) (out:Array Value) (c:Nat),s.heap.objs.size<=l->(∀b o,s.heap.get? b=some o->h'.get? b=some o)->h'.get? l=some (seqObj "list" out c)->IntsAre out.toList (f9 σ)->Q (.ref l) {s with heap:=h',toks:=tk}):
  wpAny (model prog w) A (call (.builtin "sorted") [.ref a]) Q E s:=by
 obtain⟨ri,es,ep,ho,he⟩:=hS;refine zek kind_sorted plain_sorted entry_sorted (args_sorted1 _) ?_
 unfold Builtin.«sorted»
 have hz:es.size<64:=by
  have h4:=(ic ri).2
  have hsz:es.size=σ.length:=by rw[<-zaW];exact he.len
  omega
 refine zaa (m:=checkCount "sorted" 1 1 _) (zac (zaa (x_ (by simp[hh]) ri ho he λh1 tk bO k1 k2 OT=>zaa (wpAny_newList ?_ (by rw[zbk];have:=OT.1;simp;omega)))))
 obtain⟨ns,hI,hp⟩:=OU he OT;have hz:bO.toList.length<64:=by
  have:=OT.1
  simp
  omega
 have g2:(h1.push (seqObj "list" bO.toList.toArray 0)).get? h1.objs.size=some (seqObj "list" bO.toList.toArray 0):=zak _ rfl
 show wpAny _ _ _ _ _ { s with heap:=h1.push (seqObj "list" bO.toList.toArray 0),toks:=tk}
 refine zaa (zaz (zaF (s:={ s with heap:=h1.push (seqObj "list" bO.toList.toArray 0),toks:=tk}) slot_list_sort ⟨_,g2,rfl⟩ entry_list_sort (list_sort_tree g2 hI hz λout ns' a1 a2 a3=>⟨_,rfl,?_⟩) (args_list_sort _)))
 have e':ns'=f9 σ:= List.Perm.eq_of_pairwise (λa b _ _ h1 h2=>Int.le_antisymm h1 h2) a3 (adx ri) (a2.trans hp)
 subst e';obtain⟨c,hc⟩:=sortedHeap_at (out:=out) g2
 refine zac ⟨_,rfl,h _ _ tk out c k2 (λb o e=>?_) hc a1⟩
 have hb:=k1 b o e;have jD:=zaj hb;rw[sortedHeap_old (zao jD) (by rw[size_push'];exact zbD jD)]
 exact zab _ hb
noncomputable def Vn (w:World)(l:Addr)(σ:List Nat):HO:=HO.ext λh=>qf w h l σ
theorem KC (hc:X.d9=true):ig X (.type "set") (λxs H Q=>∃(p:Addr) (zs:List Nat),xs=[.ref p]/\H p=some (.bD ((f9 zs).map V.int))/\xW zs/\∀l,H l=none->Q (.ref l) (bf H l (Vn X.w l (lY zs)))):=by
 intro ah s σ H xs us Q I r h;obtain⟨p,zs,rfl,hp,hl,q⟩:=h;obtain⟨u,rfl,ru⟩:=j9 r;cases ru;obtain⟨aJ,n,rv,e,_⟩:=I.bD hp;have cM:aJ.length=zs.length:=by rw[<-rv.length];simp
 refine uW (ns:=zs) (items:=aJ.toArray) (I.ok.hd hc) ⟨_,e,rfl,n,rfl⟩ (λi v hv=>?_) (by simp[cM]) hl λh' tk hS hk=>?_
 ·have hv:aJ[i]? = some v:=by simpa using hv
  have hi:i<zs.length:=by rw[<-cM];exact (zae.mp hv).1
  obtain⟨u,hu,ru⟩:=rv.get (i:=i) (x:=V.int ((zs[i]:Nat):Int)) (by simp[hi])
  rw[hv] at hu;have e1:v=u:=zaw hu
  subst e1;obtain⟨t,rfl⟩:=(show ∃t,v=Value.int ((zs[i]:Nat):Int) t from ru)
  exact⟨zs[i],t,zag hi,rfl⟩
 ·refine⟨.ref s.heap.objs.size,_,I.iJ (t':=tk) hk (zaf _) (show bP X.prog X.w _ _ _ (Vn X.w s.heap.objs.size (lY zs)) from ⟨hS,?_,λh1 h2 a b=>a.eU b⟩),rfl,q _ (I.bZ.fresh (zaf _))⟩
  obtain⟨_,_,_,ho,_⟩:=hS;exact⟨_,ho⟩
theorem A8 (hc:X.d9=true):ig X (.builtin "sorted") (λxs H Q=>∃(l:Addr) (σ:List Nat),xs=[.ref l]/\H l=some (Vn X.w l σ)/\∀p,H p=none->Q (.ref p) (bf H p (.bD ((f9 σ).map V.int)))):=by
 intro ah s σ H xs us Q I r h;obtain⟨l,ss,rfl,hl,q⟩:=h;obtain⟨u,rfl,ru⟩:=j9 r;cases ru;obtain⟨hS,_⟩:=(show qf X.w s.heap l ss/\_ from I.bZ l _ hl)
 have h4:=(ic hS.1).2
 refine A7 (I.ok.hd hc) hS λp h' tk out c hp hk hg hi=>?_
 have RW:((f9 ss).map V.int).length<=sizeLine:=by
  rw[zbk];simp
  omega
 exact⟨.ref p,_,I.iJ (t':=tk) hk hp (show bP X.prog X.w _ _ _ (.bD ((f9 ss).map V.int)) from ⟨RW,out.toList,c,xU hi,hg⟩),rfl,q _ (I.bZ.fresh hp)⟩
theorem CU:∀ns:List Int,bG w (ns.map Tr.int) (ns.map V.int)
 |[]=>.nil
 |n::r=>.cons dZ (CU r)
def nk:Tr->Cs->R Tr:=λt S=>match Ez S t with
 |some l=>(match mY l with|some ns=>if ns=f9 (ns.map Int.toNat)/\xW (ns.map Int.toNat) then .ok (.ls ((f9 (lY (ns.map Int.toNat))).map .int)) S else .ay|none=>.ay)
 |none=>.ay
theorem F7 (hm:X.mg "sorted"=none)(hm2:X.mg "set"=none)(he:TV G k X e fe)(hk:0<k:=by first|decide|omega)(hg:Gl X "sorted" := by rfl)(hg2:Gl X "set" := by rfl)(hs:dH e=false:=by rfl):TV G k X (.Call (.Name "sorted" p) [.Call (.Name "set" p2) [e] [] Nh] [] pos) (T8 nk fe):=.mk<|λo =>
 (tW (A8 (o.d9 hk)) hg hm qc (kX (yo (KC (o.d9 hk)) hg2 hm2 boot_set (kX (he o) tT (cU hs)) (by decide) (by decide) (cU hs) rfl) tT)).wk λσ H Q h=>by
  obtain⟨w,S,τ,hr,sl,q⟩:=h;refine⟨w,S,τ,hr,sl,(aZ.az q).mono λx H1 bU=>?_⟩
  obtain⟨w1,S1,t1,cX,bH,r1,_,q1⟩:=bU;unfold nk at q1;split at q1
  ·rename_i l el
   split at q1
   ·rename_i ns en
    split at q1
    ·rename_i hl
     obtain⟨a,xs,rfl,ha,rx⟩:=oS bH r1 el;rw[uC en rx,hl.1] at ha;refine⟨a,ns.map Int.toNat,rfl,ha,hl.2,λl An=>⟨l,lY (ns.map Int.toNat),rfl,aq,?_⟩⟩
     obtain⟨dI,fj⟩:=bH.W2 An (Vn X.w l (lY (ns.map Int.toNat)))
     exact dI.jh (CU _) rfl (aZ.wd fj (r:=.ok _ _) q1)
    ·exact q1.elim
   ·exact q1.elim
  ·exact q1.elim
end L2
namespace L2
open PySem PySem.Spec PyProof.Rows PySem.W
def uZ (h:Heap)(a:Addr)(v:Value)(n:Int):Prop:=∃(b:Addr) (o:Obj) (xs:Array Value) (k:Nat) (t:Tok),v = .ref b/\b≠a/\h.get? b=some o/\o.cls = .type "tuple" /\ o.data = .seq xs k/\xs[0]? = some (.int n t)
inductive eE (h:Heap) (a:Addr):List Value->List Int->Prop
 |nil:eE h a [] []
 |cons {v:Value} {n:Int} {vs:List Value} {ns:List Int}:uZ h a v n->eE h a vs ns->eE h a (v::vs) (n::ns)
theorem uZ.eU (q:uZ h a v n)(k:∀b o,b≠a->h.get? b=some o->b≠a'/\h'.get? b=some o):uZ h' a' v n:=by
 obtain⟨b,o,xs,m,t,rfl,hb,ho,r⟩:=q;exact⟨b,o,xs,m,t,rfl,(k b o hb ho).1,(k b o hb ho).2,r⟩
theorem eE.eU (q:eE h a vs ns)(k:∀b o,b≠a->h.get? b=some o->b≠a'/\h'.get? b=some o):eE h' a' vs ns:=by
 induction q with
 |nil=>exact .nil
 |cons q _ ih=>exact .cons (q.eU k) ih
theorem eE.len (q:eE h a vs ns):vs.length=ns.length:=by
 induction q with
 |nil=>rfl
 |cons _ _ ih=>simp[ih]
theorem eE.get (q:eE h a vs ns):∀(i:Nat) (hi:i<ns.length),uZ h a (vs.getD i Value.none) ns[i]:=by
 induction q with
 |nil=>intro i hi;simp at hi
 |cons q _ ih =>
  intro i hi;cases i with
  |zero=>exact q
  |succ i=>exact ih i (by simpa using hi)
theorem eE.kat (q:eE h a vs ns):∃fs,KatTups h vs fs/\fs.length=ns.length/\∀f∈fs,∃n t,f=Value.int n t:=by
 induction q with
 |nil=>exact⟨[],.nil,rfl,λf hf=>by simp at hf⟩
 |cons q _ ih =>
  obtain⟨fs,k1,k2,k3⟩:=ih;obtain⟨b,o,xs,m,t,rfl,hb,ho,hc,hd,hx⟩:=q;exact⟨_::fs,.cons ho hc hd hx k1,by simp[k2],λf hf=>by
   rcases zam.mp hf with rfl|hf
   ·exact⟨_,_,rfl⟩
   ·exact k3 f hf⟩
theorem Vo (hx:uZ s.heap a x m)(hy:uZ s.heap a y n)(h:n<m)(q:Q false s):wpAny (model prog w) A (keyLt' (tuples' true) x y) Q E s:=by
 obtain⟨b,o,xs,k,t,rfl,_,ho,_,hd,hf⟩:=hx;obtain⟨b',o',ys,k',t',rfl,_,sQ,_,RL,hf'⟩:=hy;refine kat_lt ho hd sQ RL ?_
 obtain⟨xr,ex⟩:∃xr,xs.toList = .int m t::xr:=by
  rw[<-zce] at hf;cases hl:xs.toList with
  |nil=>rw[hl] at hf;simp at hf
  |cons z r=>rw[hl] at hf;exact⟨r,by simpa using hf⟩
 obtain⟨yr,ey⟩:∃yr,ys.toList = .int n t'::yr:=by
  rw[<-zce] at hf';cases hl:ys.toList with
  |nil=>rw[hl] at hf';simp at hf'
  |cons z r=>rw[hl] at hf';exact⟨r,by simpa using hf'⟩
 rw[ex,ey,zcG];refine kat_cons (wpAny_eqBool_int ?_)
 have e:(m == n)=false:=by
  simp
  omega
 rw[e];refine kat_no ?_
 show wpAny _ _ (oneLt' true _ _) _ _ _
 refine oneLt_int ?_
 have e2:decide (m<n)=false:=by
  simp
  omega
 rw[e2];exact q
theorem CV (ht:eE s.heap a vs ns)(hp:ns.Pairwise (· < ·))(hG:G ns.length s):∀(f n:Nat),1<=n->n+f=ns.length ->
  (kas_asc (List.toArray (List.range ns.length)) f n).kasWp (kas_ask prog w A (tuples' true) vs) G s
 |0,n,_,hn=>by
  have:n=ns.length:=by omega
  subst this;exact hG
 |f+1,n,h1,hn=>by
  have e1:(List.toArray (List.range ns.length)).getD n 0=n:=by
   simp[Array.getD]
   omega
  have e2:(List.toArray (List.range ns.length)).getD (n - 1) 0=n - 1:=by
   simp[Array.getD]
   omega
  unfold kas_asc;rw[e1,e2];show kas_ask prog w A (tuples' true) vs n (n - 1) _ s
  unfold kas_ask;refine Vo (ht.get n (by omega)) (ht.get (n - 1) (by omega)) ?_ ?_
  ·exact zej.mp hp (n - 1) n (by omega) (by omega) (by omega)
  ·show KasT.kasWp _ (if false=true then _ else _) _ _
   rw[if_neg (by simp)]
   exact CV ht hp hG f (n+1) (by omega) (by omega)
theorem Vp (ht:eE s.heap a vs ns)(hp:ns.Pairwise (· < ·))(h1:1<=ns.length)(hG:G (List.toArray (List.range ns.length)) s):
  (kas_sort ns.length).kasWp (kas_ask prog w A (tuples' true) vs) G s:=by
 unfold kas_sort kas_count;rw[KasT.kasWp_bind,KasT.kasWp_bind];refine CV ht hp ?_ (ns.length - 1) 1 (zaf _) (by omega)
 rw[if_pos (by simp)]
 show KasT.kasWp _ (if ns.length<ns.length then _ else _) _ _
 rw[if_neg (zaY _)];exact hG
theorem F8 (vs:List Value):(List.range vs.length).map (λi=>vs.getD i Value.none)=vs:=by
 apply List.ext_getElem?
 intro i;rw[zar];by_cases h:i<vs.length
 ·simp[h]
 ·simp[h]
theorem KD (g0:s.heap.get? a=some (seqObj "list" vs.toArray n))(ht:eE s.heap a vs ns)(hp:ns.Pairwise (· < ·))(hz:vs.length<64)
  (h:P (.done (.ret .none)) {s with heap:=sortedHeap s.heap a vs vs.toArray}):wpAny (model prog w) A (Builtin.«list.sort» ⟨[.ref a],[]⟩) P E s:=by
 rw[list_sort_plain];have la:a<s.heap.objs.size:=zaj g0
 obtain⟨e1,g1⟩:∃e1,(s.heap.update a (Obj.mapSeq λ_=>#[])).get? a=some (seqObj "list" #[] e1):=⟨_,get?_update_seq g0 _⟩
 refine zaa (listItems_at g0 rfl (zaa (listUpdate_at g0 rfl (zaa (seqEpoch_at g1 rfl (zaa (wpAny_newTuple (zaa (wpAny_newList (zaz ?_))) (by show vs.length<=_;rw[zbk];omega)))))
  (by show vs.toArray.size<=_;rw[zbk];simp;omega))))
 have g6:(((s.heap.update a (Obj.mapSeq λ_=>#[])).push (seqObj "tuple" vs.toArray 0)).push (seqObj "list" #[] 0)).get? a=some (seqObj "list" #[] e1):=by
  rw[zdZ,zdZ,g1]
  ·rw[zet];exact zao la
  ·rw[size_push',zet];exact zao (zbD la)
 have ht3:eE (((s.heap.update a (Obj.mapSeq λ_=>#[])).push (seqObj "tuple" vs.toArray 0)).push (seqObj "list" #[] 0)) a vs ns:=ht.eU λb o hb e=>⟨hb,zab _ (zab _ (by rw[Heap.get?_update_ne _ _ _ _ hb];exact e))⟩
 show wpAny (model prog w) A _ P E { s with heap:=((s.heap.update a (Obj.mapSeq λ_=>#[])).push (seqObj "tuple" vs.toArray 0)).push (seqObj "list" #[] 0)}
 dsimp only;by_cases h2:vs.toArray.size<2
 ·rw[if_pos h2,if_pos h2]
  refine zaa (zac ?_)
  rw[StateT.run_pure];refine zaa (zac ?_)
  dsimp only;have ea:((arrOf (SortSt.mk' general' (vs.toArray.zip vs.toArray) #[] 7 none)).map (·.2))=vs.toArray:=by
   show ((vs.toArray.zip vs.toArray).map (·.2))=vs.toArray
   apply Array.ext_getElem?
   intro i;by_cases hi:i<vs.length
   ·simp[hi]
   ·simp[hi]
  refine zaa (seqEpoch_at g6 rfl ?_)
  rw[ea];refine zaa (listUpdate_at g6 rfl ?_ (hsz2:=by rw[zbk];simp;omega))
  simp only[bne_self_eq_false,zaC,if_false];exact zac h
 ·rw[if_neg h2,if_neg h2]
  have An:2<=vs.length:=by simpa using h2
  have cM:=ht.len;obtain⟨fs,k1,k2,k3⟩:=ht3.kat;refine zaa (kat_kind (s:={ s with heap:=((s.heap.update a (Obj.mapSeq λ_=>#[])).push (seqObj "tuple" vs.toArray 0)).push (seqObj "list" #[] 0)}) (T:=.type "int") k1 (by omega) (λv hv=>?_) (by decide) ?_)
  ·obtain⟨m,t,rfl⟩:=k3 v hv
   exact .now
  ·have et:((Value.type "int" : Value) != Value.type "tuple")=true:=by decide
   rw[et];refine zaa (zaO (kat_run (ks:=vs) (Q:=λG7 s'=>s' = { s with heap:=((s.heap.update a (Obj.mapSeq λ_=>#[])).push (seqObj "tuple" vs.toArray 0)).push (seqObj "list" #[] 0)}/\(arrOf G7).map (·.2)=vs.toArray/\failedOf G7=none)
    (G:=λp s'=>p=List.toArray (List.range vs.length)/\s' = { s with heap:=((s.heap.update a (Obj.mapSeq λ_=>#[])).push (seqObj "tuple" vs.toArray 0)).push (seqObj "list" #[] 0)}) rfl An hz (λp G7 s' a1 a2 a3 a4=>?_) ?_) ?_ λ_ _ e=>e)
   ·obtain⟨rfl,rfl⟩:=a4
    refine⟨rfl,?_,a3⟩
    rw[kat_snds rfl a2,F8]
   ·rw[cM]
    exact Vp ht3 hp (by omega) ⟨rfl,rfl⟩
   ·rintro⟨⟨⟩,z⟩ s' ⟨rfl,ea,hf⟩
    dsimp only;refine zaa (seqEpoch_at g6 rfl ?_)
    rw[ea];refine zaa (listUpdate_at g6 rfl ?_ (hsz2:=by rw[zbk];simp;omega))
    rw[hf];simp only[bne_self_eq_false,zaC,if_false];exact zac h
theorem CW (hl:s.heap.IsList l vs.toArray)(ht:eE s.heap s.heap.objs.size vs ns)(hp:ns.Pairwise (· < ·))(hz:vs.length<64)
  (h:Q (.ref (s.heap.objs.size+1)) {s with heap:=sortedAll s.heap vs vs.toArray}):wpAny (model prog w) A (call (.builtin "sorted") [.ref l]) Q E s:=by
 refine zek kind_sorted plain_sorted entry_sorted (args_sorted1 _) ?_
 unfold Builtin.«sorted»
 refine zaa (m:=checkCount "sorted" 1 1 _) (zac (zaa (collect_list hl (zaa (wpAny_newList ?_ (by rw[zbk];omega))) (by rw[zbk];omega))))
 have z1:((s.heap.push (seqObj "list" #[] 0)).update s.heap.objs.size (Obj.mapSeq (·++vs.toArray))).objs.size=s.heap.objs.size+1:=by
  rw[zet,size_push']
 have g2:(((s.heap.push (seqObj "list" #[] 0)).update s.heap.objs.size (Obj.mapSeq (·++vs.toArray))).push (seqObj "list" vs.toArray 0)).get? (s.heap.objs.size+1)=some (seqObj "list" vs.toArray 0):=by
  rw[<-z1];exact zak _ rfl
 have ht2:eE (((s.heap.push (seqObj "list" #[] 0)).update s.heap.objs.size (Obj.mapSeq (·++vs.toArray))).push (seqObj "list" vs.toArray 0)) (s.heap.objs.size+1) vs ns:=ht.eU λb o hb e=>by
  have jD:b<s.heap.objs.size:=zaj e
  exact⟨zao (zbD jD),zab _ (by rw[Heap.get?_update_ne _ _ _ _ (zao jD)];exact zab _ e)⟩
 show wpAny _ _ _ _ _ { s with heap:=((s.heap.push (seqObj "list" #[] 0)).update s.heap.objs.size (Obj.mapSeq (·++vs.toArray))).push (seqObj "list" vs.toArray 0)}
 rw[z1];refine zaa (zaz (zaF slot_list_sort ⟨_,g2,rfl⟩ entry_list_sort (KD g2 ht2 hp hz ⟨_,rfl,?_⟩) (args_list_sort _)))
 exact zac ⟨_,rfl,h⟩
inductive u5 (K:W.Frag) (H:Hp):List V->List Int->Prop
 |nil:u5 K H [] []
 |cons {b:Addr} {n:Int} {r ys:List V} {ns:List Int}:pA K H b (V.int n::r)->u5 K H ys ns->u5 K H (V.ref b::ys) (n::ns)
theorem A9:ig X (.builtin "sorted") (λxs H Q=>∃(p:Addr) (ys:List V) (ns:List Int),xs=[.ref p]/\jy X.K H p ys/\ys.length<64/\ns.Pairwise (· < ·)/\u5 X.K H ys ns/\∀l:Addr,H l=none->Q (.ref l) (bf H l (.bD ys))):=by
 intro ah s σ H xs us Q I r h;obtain⟨p,ys,ns,rfl,hq,hz,hp,hf,q⟩:=h;obtain⟨u,rfl,rx⟩:=j9 r;cases rx;obtain⟨aJ,r',pl,hss⟩:=I.list hq;have cM:=r'.length;have ht:eE s.heap s.heap.objs.size aJ ns:=by
  clear hp hz hq q pl cM hss
  induction hf generalizing aJ with
  |nil=>cases r';exact .nil
  |cons hb _ ih =>
   cases r' with
   |cons rv rr =>
    refine .cons ?_ (ih _ rr)
    cases rv;obtain⟨RU,rj,tj,_⟩:=I.fY hb;cases rj with
    |cons rn _ =>
     obtain⟨t,rfl⟩:=(show ∃t,_=Value.int _ t from rn)
     obtain⟨o,ho,hc,n,hd⟩:=tj;exact⟨_,o,_,n,t,rfl,zao (zaj ho),ho,hc,hd,by simp⟩
 refine CW pl.isList ht hp (by omega) ?_
 obtain⟨e,he⟩:=sortedAll_at s.heap aJ aJ.toArray;have RW:ys.length<=sizeLine:=by
  rw[zbk];omega
 exact⟨.ref (s.heap.objs.size+1),_,I.iJ (t':=s.toks) (λb o=>sortedAll_old) (zbc _) (show bP X.prog X.w _ _ _ (.bD ys) from ⟨RW,aJ,e,r',he⟩),rfl,q _ (I.bZ.fresh (zbc _))⟩
noncomputable def lI:List Tr->Option (List Int)
 |[]=>some []
 |.tp (.int n::_)::r=>(lI r).map (n::·)
 |_=>none
theorem u6 (hr:HR G w S H):∀{l:List Tr} {ns:List Int} {xs:List V},lI l=some ns->bG w l xs->u5 G.K H xs ns
 |[],ns,xs,e,r=>by
  have r:xs=[]:=r
  subst r;cases e;exact .nil
 |t::l,ns,xs,e,r=>by
  obtain⟨x,xr,rfl,r1,rr⟩:=(show ∃x r,xs=x::r/\RT w t x/\bG w l r from r)
  unfold lI at e;split at e
  ·rename_i h
   cases h
  ·rename_i n m l' h
   cases h;cases hl:lI l with
   |none=>rw[hl] at e;cases e
   |some ms =>
    rw[hl] at e;cases e;unfold RT at r1;obtain⟨a,ys,rfl,hF,ry⟩:=r1;obtain⟨y,yr,rfl,rn,_⟩:=(show ∃x r,ys=x::r/\RT w (.int n) x/\bG w m r from ry)
    have en:=aK rn;subst en;exact .cons (pA.of (hr.sub _ _ hF)) (u6 hr hl rr)
  ·cases e
def qj:List Tr->Cs->R Tr:=λts S=>match ts with
 |[t]=>(match w9 S t with|some l=>(match lI l with|some ns=>if l.length<64/\ns.Pairwise (· < ·) then .ok (.hd S.length) (S++[.bD l]) else .ay|none=>.ay)|none=>.ay)
 |_=>.ay
theorem OV:mh G k (.builtin "sorted") qj:=.mk<|λX o ah s σ H xs us Q I rv zp=>by
 obtain⟨w,S,ts,hr,r,q⟩:=zp;unfold qj at q;split at q
 ·obtain⟨x,rfl,r1⟩:=fu r
  split at q
  ·rename_i l e
   split at q
   ·rename_i ns en
    split at q
    ·rename_i hc
     obtain⟨a,xs,e1,sq,R⟩:=ji hr r1 e;have ff:=u6 hr en R;rw[<-o.K] at sq ff;have hl:=R.len;exact A9 ah s σ H _ us Q I rv ⟨a,xs,ns,by rw[e1],sq,by omega,hc.2,ff,hr.aim R rfl rfl q⟩
    ·exact q.elim
   ·exact q.elim
  ·exact q.elim
 ·exact q.elim
end L2
namespace L2
open PySem
def bp:=jp @vV0<|jp @bV0<|jp @sV0<|jp @bN0<|jp @bV1<|jp @sV1<|jp @kS1<|jp @bN1<|jp @vV2<|jp @bV2<|jp @sV2<|jp @kS2<|jp @bN2<|jp @vV3<|jp @bV3<|jp @sV3<|jp @kS3<|jp @bN3<|jp @bV4<|jp @sV4<|jp @kS4<|jp @bN4<|jp @bV5<|jp @kS5<|jp @bN5<|jp @bV6<|jp @kS6<|jp @bN6<|jp @bV7<|jp @kS7<|jp @bN7<|jp @kS8<|jp @bN8<|jp @bN9<|jp @aod<|jp @bC<|jp @sC<|jp @ajq<|jp @ajr<|jp @ajs<|jp @ajt<|jp @aju<|jp @ajv<|jp @ajw<|jp @ajx<|jp @ajy<|jp @ajz<|jp @ajA<|jp @ajB<|jp @ajC<|jp @adq<|jp @ajD<|jp @ajE<|jp @ajF<|jp @ajG<|jp @ajH<|jp @ajI<|jp @kF1<|jp @kF2<|jp @kF3<|jp @kF4<|jp @kF5<|jp @kM1<|jp @kM2<|jp @kM3<|jp @kK3<|jp @kK5<|jp @kL0<|jp @kC0<|jp @kT1<|jp @kL1<|jp @kT2<|jp @kL2<|jp @kT3<|jp @kL3<|jp @kT4<|jp @kL4<|jp @kT5<|jp @kL5<|jp @kC5<|jp @kT6<|jp @kT7<|jp @kL8<|jp @aoe<|jp @iT0<|jp @iT1<|jp @iT2<|jp @iT3<|jp @iT4<|jp @iT5<|jp @iT6<|jp @iT7<|jp @iL0<|jp @iL1<|jp @gIb<|jp @aof<|jp @aog<|jp @aV0<|jp @aoh<|jp @aoi<|jp @aV1<|jp @aoj<|jp @aok<|jp @aV2<|jp @aol<|jp @aom<|jp @aV3<|jp @aon<|jp @aoo<|jp @aV4<|jp @aop<|jp @aV5<|jp @aoq<|jp @aV6<|jp @aV7<|jp @aV8<|jp @aV9<|jp @sS5<|jp @kBC<|jp @kCN<|jp @aC<|jp @ln7<|@aor
def bx:=jp @CG<|jp @acu<|jp @ac2<|jp @UZ<|jp @Kn<|jp @Oo<|jp @ac3<|jp @U0<|jp @Oq<|jp @U1<|jp @ajd<|jp @U3<|jp @U4<|jp @U5<|jp @U6<|jp @U7<|jp @ac4<|jp @U8<|jp @R.dY<|jp @R.Av<|jp @R.gE<|jp @R.Cj<|jp @acv<|jp @acw<|jp @UJ<|jp @acy<|jp @uG<|jp @UK<|jp @an5<|jp @aje<|jp @ac5<|jp @ac6<|jp @Ot<|jp @Ou<|jp @Ov<|jp @ac7<|jp @ac8<|jp @ajf<|jp @ac9<|jp @Ow<|jp @ada<|jp @adb<|jp @U9<|jp @ade<|jp @adf<|jp @adg<|jp @zat.{0,0}<|jp @zcc.{0,0}<|jp @zas.{0}<|jp @zbm.{0}<|jp @zbY.{0}<|jp @zdA.{0}<|jp @zaX.{0}<|jp @zaL.{0}<|jp @List.set_cons_zero.{0}<|jp @zdV.{0}<|jp @zcu.{0}<|jp @zaD.{0}<|jp @zfu.{0}<|jp @Option.isNone_some.{0}<|jp @zdR.{0}<|jp @acz<|jp @zaC<|jp @aiJ<|jp @anF<|jp @if_true.{0}<|jp @if_false.{0}<|jp @decide_true<|jp @decide_false<|jp @Bool.not_true<|jp @Bool.not_false<|jp @and_true<|jp @false_and<|jp @and_false<|jp @or_true<|jp @true_or<|jp @or_false<|jp @not_true_eq_false<|jp @not_false_eq_true<|jp @at0<|jp @bK<|jp @lF<|jp @and_self<|jp @or_self<|jp @aii<|jp @UG<|jp @N5<|jp @UH<|jp @UI<|jp @lG<|jp @HU<|jp @U_<|jp @ia<|jp @Va<|jp @Ox<|jp @uH<|jp @yP<|jp @an6<|jp @Kh<|jp @N6<|jp @Xc<|jp @aiI<|jp @adh<|jp @zan.{0}<|jp @zad.{0,0}<|jp @Int.cast_ofNat_Int<|jp @List.isEmpty_cons.{0}<|jp @Int.zero_add<|jp @AM<|jp @CH<|jp @CI<|jp @xQ<|jp @AN<|jp @CJ<|jp @xR<|jp @AO<|jp @sM<|jp @uJ<|jp @uK<|jp @xS<|jp @aiP<|jp @aiQ<|jp @vIf<|jp @aiR<|jp @anM<|jp @aiS<|jp @aiT<|jp @anN<|jp @aiU<|jp @acM<|jp @anP<|jp @aiW<|jp @aiX<|jp @Oe<|jp @UO<|jp @aiY<|jp @anQ<|jp @vB<|jp @acN<|jp @anR<|jp @vUn<|jp @vC<|jp @aiZ<|jp @Of<|jp @UP<|jp @ai0<|jp @anS<|jp @anT<|jp @anU<|jp @ai1<|jp @vFn<|jp @UQ<|jp @ai2<|jp @Oi<|jp @ai3<|jp @anV<|jp @acP<|jp @acQ<|jp @anW<|jp @acR<|jp @anY<|jp @acT<|jp @acU<|jp @anZ<|jp @ai5<|jp @ai6<|jp @vOr<|jp @UR<|jp @ai7<|jp @US<|jp @ai8<|jp @acV<|jp @an1<|jp @acW<|jp @an2<|jp @acX<|jp @an3<|jp @vIt<|jp @UT<|jp @acY<|jp @an4<|jp @FU<|jp @Kq<|jp @UU<|jp @UW<|jp @UX<|jp @UY<|jp @ac0<|jp @Om<|jp @ac1<|jp @AW<|jp @Oz<|jp @gG.eq_1<|jp @Ke.eq_1<|jp @Ke.eq_2<|jp @pW.eq_1<|jp @pW.eq_2<|jp @Kf.eq_1<|jp @Kf.eq_2<|jp @pV.eq_1<|jp @pV.eq_2<|jp @isN.eq_1<|jp @isN.eq_2<|jp @gSl.eq_1<|jp @gSl.eq_2<|jp @iz.eq_1<|jp @iz.eq_2<|jp @iz.eq_3<|jp @Cr.eq_1<|jp @Cr.eq_2<|jp @Cr.eq_3<|jp @Cr.eq_4<|jp @Cr.eq_5<|jp @Cr.eq_6<|jp @w9.eq_1<|jp @w9.eq_2<|jp @w9.eq_3<|jp @w9.eq_4<|jp @R3.eq_1<|jp @R3.eq_2<|jp @R3.eq_3<|jp @LN.eq_1<|jp @LN.eq_2<|jp @Ez.eq_1<|jp @Ez.eq_2<|jp @Ez.eq_3<|jp @cK.eq_1<|jp @pR.eq_1<|jp @iT.eq_1<|jp @LS.eq_1<|jp @ckD.eq_1<|jp @LR.eq_1<|jp @LR.eq_2<|jp @LR.eq_3<|jp @LR.eq_4<|jp @LR.eq_5<|jp @LR.eq_6<|jp @LR.eq_7<|jp @LR.eq_8<|jp @iN.eq_1<|jp @AU.eq_1<|jp @AU.eq_2<|jp @CK.eq_1<|jp @gT2.eq_1<|@gT2.eq_2
end L2
namespace My
open PySem L2
theorem oh {α β:Type}{f:α -> β}{a:α}{l:List α}:List.map f (a::l)=f a::List.map f l:=by first|exact zat|exact zat _|simp
theorem Ii {α β:Type}{f:α -> β}:List.map f []=[]:=by first|exact zcc|exact zcc _|simp
theorem BI {α:Type}{l:List α}:[]++l=l:=by first|exact zdA|exact zdA _|simp
def fU (i:Nat):Stmt:=PySem.Challenge.pw_inningsbook_k42_extras.main.body.getD i (.Pass ⟨0,0,0,0⟩)
abbrev Xp:Stmt:=fU 46
abbrev Xq:Stmt:=fU 47
abbrev Xr:Stmt:=fU 48
abbrev OW:Stmt:=fU 40
abbrev OX:Stmt:=aW (fU 43) 0
abbrev Ij:Stmt:=fU 49
abbrev Xs:Stmt:=aW (fU 43) 1
abbrev Xu:Stmt:=aW (fU 43) 2
abbrev OY:Stmt:=aW (fU 43) 3
abbrev Xv:Stmt:=aW (fU 43) 4
abbrev Xw:Stmt:=aW (fU 43) 5
abbrev Xx:Stmt:=aW (fU 43) 6
abbrev Xy:Stmt:=aW (fU 43) 8
abbrev Xz:Stmt:=aW (fU 43) 9
abbrev XA:Stmt:=aW (fU 31) 1
abbrev XC:Stmt:=fU 36
abbrev XD:Stmt:=aW (fU 43) 10
abbrev XE:Stmt:=aW (fU 43) 7
abbrev XF:Stmt:=aW (fU 43) 11
abbrev ajP:Stmt:=aW (fU 31) 2
abbrev XG:Stmt:=fU 18
abbrev XH:Stmt:=fU 19
abbrev XI:Stmt:=fU 20
abbrev XJ:Stmt:=fU 33
abbrev XM:Stmt:=fU 34
abbrev XN:Stmt:=fU 35
abbrev XO:Stmt:=fU 37
abbrev XQ:Stmt:=aW (fU 43) 12
abbrev ajQ:Stmt:=aW (fU 31) 0
abbrev XR:Stmt:=aW (fU 43) 13
abbrev XS:Stmt:=fU 21
abbrev XT:Stmt:=fU 22
abbrev ajR:Stmt:=aW (fU 31) 8
abbrev ajS:Stmt:=aW (fU 31) 4
abbrev ajT:Stmt:=aW (fU 31) 5
abbrev ajU:Stmt:=aW (fU 31) 9
abbrev ajV:Stmt:=aW (fU 31) 10
abbrev XU:Stmt:=aW (fU 31) 11
abbrev XW:Stmt:=aW (fU 43) 14
abbrev ajW:Stmt:=aW (fU 31) 6
abbrev ajX:Stmt:=aW (fU 31) 7
abbrev OZ:Stmt:=fU 44
abbrev O0:Stmt:=fU 32
abbrev XX:Stmt:=aW (fU 31) 12
abbrev O1:Stmt:=aW (fU 43) 15
abbrev XY:Stmt:=aW (fU 43) 16
abbrev XZ:Stmt:=aW (fU 43) 17
abbrev adz:Stmt:=aW (fU 31) 3
abbrev X0:Stmt:=aW (fU 43) 18
abbrev X3:Stmt:=aW (fU 43) 19
abbrev X4:Stmt:=aW (fU 43) 20
abbrev O2:Stmt:=aW (fU 43) 23
abbrev X5:Stmt:=aW (fU 43) 22
abbrev X6:Stmt:=fU 51
abbrev X7:Stmt:=fU 50
abbrev X8:Stmt:=fU 52
abbrev X_:Stmt:=fU 53
abbrev Yb:Stmt:=fU 54
abbrev Yc:Stmt:=aW (fU 43) 25
abbrev yZ:Stmt:=fU 57
abbrev Yd:Stmt:=fU 27
abbrev Ye:Stmt:=fU 28
abbrev O3:Stmt:=fU 24
abbrev O4:Stmt:=fU 25
abbrev Yg:Stmt:=fU 29
abbrev Yh:Stmt:=fU 56
abbrev Yi:Stmt:=fU 58
abbrev dO:Stmt:=aW (fU 3) 0
structure AdF where
 CY:Addr
 CZ:Addr
 C0:Addr
 C1:Addr
 u9:Addr
 C2:Addr
 y9:Addr
 y_:Addr
 zc:Addr
 zd:Addr
 ze:Addr
 zf:Addr
 zg:Addr
 zh:Addr
 zj:Addr
 C3:Addr
 zk:Addr
 zl:Addr
 zo:Addr
 KG:Addr
 C4:Addr
 C5:Addr
 C6:Addr
 C7:Addr
 C8:Addr
 C9:Addr
 C_:Addr
 zq:Addr
 F9:Addr
 zu:Addr
 Dc:Addr
 Dd:Addr
 KH:Addr
 KI:Addr
 KJ:Addr
 KL:Addr
 KN:Addr
 zv:Addr
 zw:Addr
 KO:Addr
 KP:Addr
 De:Addr
 Df:Addr
 zx:Addr
 zy:Addr
 zz:Addr
 zA:Addr
 KQ:Addr
 zB:Addr
 zC:Addr
 zD:Addr
 zE:Addr
 zF:Addr
 Dg:Addr
 Dh:Addr
 Di:Addr
 Dl:Addr
 Dm:Addr
 zG:Addr
 Dn:Addr
 Dp:Addr
 Dq:Addr
 Ds:Addr
 Dt:Addr
 Du:Addr
 Dv:Addr
 Dw:Addr
 u_:FuncData
 vc:FuncData
 vd:FuncData
 ve:FuncData
 vf:FuncData
 vg:FuncData
 vh:FuncData
 vj:FuncData
 vm:FuncData
 vn:FuncData
 vo:FuncData
 vp:FuncData
 vq:FuncData
 vz:FuncData
 vA:FuncData
 vD:FuncData
 vE:FuncData
 vF:FuncData
 vG:FuncData
 Dy:FuncData
 vH:FuncData
 vI:FuncData
 vJ:FuncData
 vK:FuncData
 vL:FuncData
 vM:FuncData
 vN:FuncData
 vO:FuncData
 Dz:FuncData
 vP:FuncData
 vQ:FuncData
 vR:FuncData
 DA:FuncData
 DB:FuncData
 DC:FuncData
 DE:FuncData
 DF:FuncData
 vS:FuncData
 vU:FuncData
 DG:FuncData
 DH:FuncData
 vV:FuncData
 vW:FuncData
 vX:FuncData
 vY:FuncData
 vZ:FuncData
 v_:FuncData
 DI:FuncData
 wc:FuncData
 we:FuncData
 wg:FuncData
 wj:FuncData
 wm:FuncData
 wo:FuncData
 wu:FuncData
 wz:FuncData
 wA:FuncData
 wB:FuncData
 wC:FuncData
 wD:FuncData
 wF:FuncData
 wG:FuncData
 wH:FuncData
 wI:FuncData
 wJ:FuncData
 wK:FuncData
 oZ:FuncData
 aL:Addr
 a_:Addr
 iZ:Tok
 jL:Tok
 A_:Tok
 i6:Tok
 i7:Tok
 nK:Tok
 i8:Tok
 jM:Tok
 lJ:Tok
 nL:Tok
 Ik:Tok
 lK:Tok
 i9:Tok
 jN:Tok
 nM:Tok
structure Ad extends AdF where
 aV:Addr
 bJ:Addr
 aY:Addr
 eF:FuncData
 jd:Tok
noncomputable def aF (a:Ad):Str->Addr:=λx=>if x="Innings" then a.aL else if x="Match" then a.a_ else if x="NotLet" then a.bJ else 0
noncomputable def er (a:Ad):List (Str×Addr×Addr):=[("NotLet",a.bJ,a.aY)]
structure TxF (K:W.Frag) (mg:Str->Option Value) (a:AdF):Prop where
 ajY:mg "any"=none
 adA:mg "bool"=none
 adB:mg "dict"=none
 DJ:mg "int"=none
 cN:mg "isinstance"=none
 jO:mg "len"=none
 lM:mg "list"=none
 Ba:mg "range"=none
 ajZ:mg "set"=none
 DK:mg "sorted"=none
 Yj:mg "str"=none
 Yk:mg "sum"=none
 ql:mg "tuple"=none
 Yl:mg "zip"=none
 Bb:mg "EXTRA_RUNS"=some (.int 2 a.iZ)
 DL:mg "FOLLOW_AT"=some (.int 7 a.jL)
 adC:mg "FOUR"=some (.int 4 a.A_)
 Bc:mg "INNINGS_AT"=some (.int 6 a.i6)
 Bd:mg "IS_CROSSED"=some (.int 6 a.i7)
 KR:mg "IS_FAIR"=some (.int 4 a.nK)
 qm:mg "LONG_MATCH"=some (.int 4 a.i8)
 rZ:mg "NOBALL_AT"=some (.int 4 a.jM)
 F_:mg "OVERS_AT"=some (.int 1 a.lJ)
 KS:mg "OVER_AT"=some (.int 0 a.nL)
 aj0:mg "SIX"=some (.int 6 a.Ik)
 Ga:mg "SPELL_AT"=some (.int 2 a.lK)
 qo:mg "TEAM_COUNT"=some (.int 2 a.i9)
 DM:mg "TEAM_RUNS"=some (.int 0 a.jN)
 KU:mg "WIDE_AT"=some (.int 3 a.nM)
 Ym:oF K mg "_law_drawn" Xp ["_law_script"] a.CY a.u_
 r9:oF K mg "_law_pick" Xq ["_law_draw","_law_many"] a.CZ a.vc
 Yn:oF K mg "_law_rules" Xr ["_law_draw"] a.C0 a.vd
 O5:oF K mg "names_told" OW ["teams","word"] a.C1 a.ve
 Yo:mj K a.a_ "__init__" "Match.__init__" OX ["self","rules","teams"] a.u9 a.vf
 Yp:oF K mg "_law_teams" Ij ["_law_draw","_law_side"] a.C2 a.vg
 jP:mj K a.a_ "going" "Match.going" Xs ["self"] a.y9 a.vh
 DN:mj K a.a_ "most_innings" "Match.most_innings" Xu ["self"] a.y_ a.vj
 O6:mj K a.a_ "total_of" "Match.total_of" OY ["self","side"] a.zc a.vm
 DO:mj K a.a_ "lead_of" "Match.lead_of" Xv ["self","side"] a.zd a.vn
 Il:mj K a.a_ "is_done" "Match.is_done" Xw ["self"] a.ze a.vo
 Im:mj K a.a_ "next_side" "Match.next_side" Xx ["self"] a.zf a.vp
 Io:mj K a.a_ "side_to_start" "Match.side_to_start" Xy ["self","team"] a.zg a.vq
 O7:mj K a.a_ "start_refusal" "Match.start_refusal" Xz ["self","entry"] a.zh a.vz
 r_:mj K a.aL "stands" "Innings.stands" XA ["self","name"] a.zj a.vA
 Yq:oF K mg "swap_refusal_within" XC ["innings","old"] a.C3 a.vD
 O8:mj K a.a_ "swap_refusal" "Match.swap_refusal" XD ["self","old","new"] a.zk a.vE
 O9:mj K a.a_ "may_follow" "Match.may_follow" XE ["self"] a.zl a.vF
 O_:mj K a.a_ "follow_refusal" "Match.follow_refusal" XF ["self"] a.zo a.vG
 Pa:mj K a.aL "has_gap" "Innings.has_gap" ajP ["self"] a.KG a.Dy
 Yr:oF K mg "rope_goes" XG ["kind","runs"] a.C4 a.vH
 Ys:oF K mg "way_goes" XH ["kind","runs","rope","way"] a.C5 a.vI
 Yt:oF K mg "ball_fault" XI ["entry"] a.C6 a.vJ
 Yu:oF K mg "ball_refusal" XJ ["innings","entry"] a.C7 a.vK
 Yv:oF K mg "in_refusal" XM ["innings","batting","name"] a.C8 a.vL
 Yw:oF K mg "bowl_refusal" XN ["innings","fielding","spell","name"] a.C9 a.vM
 Yx:oF K mg "refusal_within" XO ["innings","rules","batting","fielding","entry"] a.C_ a.vN
 Pb:mj K a.a_ "refusal" "Match.refusal" XQ ["self","entry"] a.zq a.vO
 aj1:mj K a.aL "__init__" "Innings.__init__" ajQ ["self","side","facing","other","bowler"] a.F9 a.Dz
 Pc:mj K a.a_ "begin" "Match.begin" XR ["self","entry"] a.zu a.vP
 Yy:oF K mg "runs_by" XS ["rules","kind","runs"] a.Dc a.vQ
 Pd:oF K mg "ball_sums" XT ["rules","entry"] a.Dd a.vR
 adD:mj K a.aL "out_by" "Innings.out_by" ajR ["self","entry"] a.KH a.DA
 Pe:mj K a.aL "change_ends" "Innings.change_ends" ajS ["self"] a.KI a.DB
 Vq:mj K a.aL "leave" "Innings.leave" ajT ["self","name"] a.KJ a.DC
 adE:mj K a.aL "fall" "Innings.fall" ajU ["self","name","end"] a.KL a.DE
 adF:mj K a.aL "count_fair" "Innings.count_fair" ajV ["self","over"] a.KN a.DF
 Pf:mj K a.aL "play" "Innings.play" XU ["self","rules","entry"] a.zv a.vS
 Pg:mj K a.a_ "play_ball" "Match.play_ball" XW ["self","entry"] a.zw a.vU
 adG:mj K a.aL "come_in" "Innings.come_in" ajW ["self","name"] a.KO a.DG
 adH:mj K a.aL "bowl_next" "Innings.bowl_next" ajX ["self","name"] a.KP a.DH
 Yz:oF K mg "swapped" OZ ["players","old","new"] a.De a.vV
 YA:oF K mg "renamed" O0 ["told","old","new"] a.Df a.vW
 Ph:mj K a.aL "rename" "Innings.rename" XX ["self","old","new"] a.zx a.vX
 Pj:mj K a.a_ "swap_player" "Match.swap_player" O1 ["self","old","new"] a.zy a.vY
 Pk:mj K a.a_ "close" "Match.close" XY ["self"] a.zz a.vZ
 Pn:mj K a.a_ "do" "Match.do" XZ ["self","entry"] a.zA a.v_
 adI:mj K a.aL "has_left" "Innings.has_left" adz ["self","players"] a.KQ a.DI
 Po:mj K a.a_ "ending_due" "Match.ending_due" X0 ["self","going"] a.zB a.wc
 Pp:mj K a.a_ "tell" "Match.tell" X3 ["self","entry"] a.zC a.we
 Pq:mj K a.a_ "state" "Match.state" X4 ["self"] a.zD a.wg
 Ip:mj K a.a_ "players" "Match.players" O2 ["self"] a.zE a.wj
 Pr:mj K a.a_ "turn" "Match.turn" X5 ["self"] a.zF a.wm
 YB:oF K mg "_law_opening" X6 ["_law_draw","_law_match"] a.Dg a.wo
 YC:oF K mg "_law_ball" X7 ["_law_draw","_law_two"] a.Dh a.wu
 YD:oF K mg "_law_entry" X8 ["_law_draw","_law_match"] a.Di a.wz
 YE:oF K mg "_law_played" X_ ["_law_draw"] a.Dl a.wA
 YF:oF K mg "_law_part" Yb ["_law_draw","_law_log"] a.Dm a.wB
 Pu:mj K a.a_ "log" "Match.log" Yc ["self"] a.zG a.wC
 YG:oF K mg "_law_due" yZ ["_law_rules_here","_law_log"] a.Dn a.wD
 YH:oF K mg "is_noball" Yd ["entry"] a.Dp a.wF
 YI:oF K mg "extra_part" Ye ["rules","entry"] a.Dq a.wG
 YJ:oF K mg "added" O3 ["one","two"] a.Ds a.wH
 YK:oF K mg "totals" O4 ["parts"] a.Dt a.wI
 YL:oF K mg "extras" Yg ["rules","log"] a.Du a.wJ
 se:oF K mg "_law_same" Yh ["_law_found","_law_due_here"] a.Dv a.wK
 Pw:oF K mg "law" Yi ["_law_script"] a.Dw a.oZ
 cJ:Xb K mg "Innings" a.aL a.F9
 aj2:cu K a.aL "side"
 aj3:cu K a.aL "facing"
 aj4:cu K a.aL "other"
 aj5:cu K a.aL "bowler"
 aj6:cu K a.aL "ahead"
 aj7:cu K a.aL "total"
 aj8:cu K a.aL "wickets"
 aj9:cu K a.aL "overs"
 aka:cu K a.aL "balls"
 akb:cu K a.aL "ending"
 adJ:cu K a.aL "outs"
 adK:cu K a.aL "spells"
 ie:Xb K mg "Match" a.a_ a.u9
 akc:cu K a.a_ "rules"
 akd:cu K a.a_ "sides"
 ake:cu K a.a_ "known"
 akf:cu K a.a_ "played"
 akg:cu K a.a_ "followed"
 akh:cu K a.a_ "closed"
 aki:cu K a.a_ "balls_told"
structure Txt (K:W.Frag) (mg:Str->Option Value) (a:Ad):Prop extends TxF K mg a.toAdF where
 Er:acK K mg a.aV (er a)
 gz:EC K mg a.aV "NotLet" a.bJ a.aY dO a.eF ["self","words","rule","number"]
 zH:eW K a.eF ["self","words","rule","number"] [.int 0 a.jd]
 nq:W.findIn K (.ref a.bJ) "rule"=some none
 kK:W.findIn K (.ref a.bJ) "number"=some none
 KW:a.bJ≠a.aV
theorem gJ {K:W.Frag}{cl:Str->Addr}{E:XK}{x f:Str}{C:Addr}(e:cl x=C)(h:wZ K C)(n:cu K C f):fC ⟨K,cl,E⟩ [x] f:=λc hc=>by
 cases zaN.mp hc
 subst e;exact⟨h,n⟩
theorem fV {N P:List Str}{sc:Scope}(h:sc.kind = .function/\sc.isCoroutine=false/\sc.isGenerator=false/\N.take P.length=P:=by exact⟨rfl,rfl,rfl,rfl⟩)(d:N.Nodup/\(∀x∈P,sc.names.lookup x=some .local\/sc.names.lookup x=some .cell)/\∀y∈sc.names,y.2 ≠ .free:=by decide +kernel):au N P sc:=⟨h.1,h.2.1,h.2.2.1,d.1,h.2.2.2,d.2.1,d.2.2⟩
section
variable {P:Program}{w:World}{K:W.Frag}{mg:Str->Option Value}{base:Heap}{a:Ad}{E:XK}
theorem aM:aF a "Innings"=a.aL:=by unfold aF;rw[if_pos rfl]
theorem aQ (T:Txt K mg a):wZ K (aF a "Innings"):=by rw[aM];exact T.cJ.c
theorem Gb (T:Txt K mg a):Mk K (aF a "Innings") a.F9:=by rw[aM];exact T.cJ.k
theorem DP (T:Txt K mg a):mg "Innings"=some (.ref (aF a "Innings")):=by rw[aM];exact T.cJ.m
theorem nu (T:Txt K mg a):fC ⟨K,aF a,E⟩ ["Innings"] "side" := gJ aM T.cJ.c T.aj2
theorem iO (T:Txt K mg a):fC ⟨K,aF a,E⟩ ["Innings"] "facing" := gJ aM T.cJ.c T.aj3
theorem nv (T:Txt K mg a):fC ⟨K,aF a,E⟩ ["Innings"] "other" := gJ aM T.cJ.c T.aj4
theorem lN (T:Txt K mg a):fC ⟨K,aF a,E⟩ ["Innings"] "bowler" := gJ aM T.cJ.c T.aj5
theorem wL (T:Txt K mg a):fC ⟨K,aF a,E⟩ ["Innings"] "ahead" := gJ aM T.cJ.c T.aj6
theorem Be (T:Txt K mg a):fC ⟨K,aF a,E⟩ ["Innings"] "total" := gJ aM T.cJ.c T.aj7
theorem Gd (T:Txt K mg a):fC ⟨K,aF a,E⟩ ["Innings"] "wickets" := gJ aM T.cJ.c T.aj8
theorem wM (T:Txt K mg a):fC ⟨K,aF a,E⟩ ["Innings"] "overs" := gJ aM T.cJ.c T.aj9
theorem rm (T:Txt K mg a):fC ⟨K,aF a,E⟩ ["Innings"] "balls" := gJ aM T.cJ.c T.aka
theorem wN (T:Txt K mg a):fC ⟨K,aF a,E⟩ ["Innings"] "ending" := gJ aM T.cJ.c T.akb
theorem nN (T:Txt K mg a):fC ⟨K,aF a,E⟩ ["Innings"] "outs" := gJ aM T.cJ.c T.adJ
theorem qp (T:Txt K mg a):fC ⟨K,aF a,E⟩ ["Innings"] "spells" := gJ aM T.cJ.c T.adK
theorem aT:aF a "Match"=a.a_:=by unfold aF;rw[if_neg (by decide)];rw[if_pos rfl]
theorem aA (T:Txt K mg a):wZ K (aF a "Match"):=by rw[aT];exact T.ie.c
theorem Px (T:Txt K mg a):Mk K (aF a "Match") a.u9:=by rw[aT];exact T.ie.k
theorem KY (T:Txt K mg a):mg "Match"=some (.ref (aF a "Match")):=by rw[aT];exact T.ie.m
theorem rq (T:Txt K mg a):fC ⟨K,aF a,E⟩ ["Match"] "rules" := gJ aT T.ie.c T.akc
theorem jo (T:Txt K mg a):fC ⟨K,aF a,E⟩ ["Match"] "sides" := gJ aT T.ie.c T.akd
theorem Ge (T:Txt K mg a):fC ⟨K,aF a,E⟩ ["Match"] "known" := gJ aT T.ie.c T.ake
theorem jY (T:Txt K mg a):fC ⟨K,aF a,E⟩ ["Match"] "played" := gJ aT T.ie.c T.akf
theorem Bf (T:Txt K mg a):fC ⟨K,aF a,E⟩ ["Match"] "followed" := gJ aT T.ie.c T.akg
theorem Gf (T:Txt K mg a):fC ⟨K,aF a,E⟩ ["Match"] "closed" := gJ aT T.ie.c T.akh
theorem Gg (T:Txt K mg a):fC ⟨K,aF a,E⟩ ["Match"] "balls_told" := gJ aT T.ie.c T.aki
theorem nO:aF a "NotLet"=a.bJ:=by unfold aF;rw[if_neg (by decide)];rw[if_neg (by decide)];rw[if_pos rfl]
theorem zJ (T:Txt K mg a):sU K (aF a "NotLet") a.aY (.ref a.aV::sS):=by rw[nO];exact T.gz.M
theorem Gh (T:Txt K mg a):mg "NotLet"=some (.ref (aF a "NotLet")):=by rw[nO];exact T.gz.m
theorem o4:au ["self","words","rule","number"] ["self","words","rule","number"] (aj dO):=fV
theorem o5 (T:Txt K mg a):aP P w K mg base eO 1 a.aY a.eF ["self","words","rule","number"] (Xd (aF a "NotLet") 3 (gE2 "rule" "number")):=by
 rw[nO];refine T.gz.ok o4 (λvs H Q E h=>?_) (λq fG A outer s H vs Q E hr h=>?_)
 ·obtain⟨b,xs,rfl,hl,_⟩:=h
  simp[hl]
 ·obtain⟨b,xs,rfl,hl,ha,k⟩:=h
  match xs,hl,k with
  |[x,y,z],_,k =>
   refine⟨_,tN (G5 (M3 T.Er.EB rfl T.Er.m (kX (pv 0) (kX (pv 1) tT)))) (tN (Tw (pv 0) (pv 2)) (G4 (Tz (pv 0) (pv 3)))),?_⟩
   refine⟨_,rfl,_,rfl,b,_,_,_,none,x,rfl,ha,T.gz.M,?_⟩
   refine⟨_,rfl,_,rfl,b,_,_,_,rfl,ha,T.gz.M,T.nq,λd nd=>?_⟩
   have nda:d≠b:=(fK ha nd).symm
   refine⟨_,rfl,_,rfl,b,_,_,_,d,[(("rule":Str),y)],rfl,aq,by rw[av nda,aq],(show 1<1000 by decide),T.gz.M,T.kK,?_⟩
   have e1:gB "number" z [(("rule":Str),y)]=[(("rule":Str),y),("number",z)]:=by
    show (if ("rule":Str)="number" then _ else _)=_
    rw[if_neg (by decide +kernel)]
    rfl
   rw[e1];refine k d _ nd (by rw[av nda.symm,aq]) aq λb o eb nb=>?_
   have nbd:b≠d:=fK eb nd
   rw[av nbd,av nb,av nbd];exact eb
theorem Py (T:Txt K mg a):mg "NotLet"=some (.ref a.bJ):=(T.Er.all _ (zaZ (i:=0) (l:=er a) rfl)).1
theorem KZ (T:Txt K mg a):sY ⟨K,aF a,E⟩ a.bJ ["NotLet"]:=by
 intro c hc;simp only[zam,zav,or_false] at hc;rcases hc with rfl
 ·exact⟨_,_,zJ T,by show (Value.ref (aF a "NotLet")::_).contains _=true;rw[nO];exact Od⟩
theorem gi (T:Txt K mg a):dJ K (aF a "Match") "going" a.y9:=by rw[aT];exact T.jP.M
theorem Bg (T:Txt K mg a):dJ K (aF a "Match") "most_innings" a.y_:=by rw[aT];exact T.DN.M
theorem Vr (T:Txt K mg a):dJ K (aF a "Match") "total_of" a.zc:=by rw[aT];exact T.O6.M
theorem Bh (T:Txt K mg a):dJ K (aF a "Match") "lead_of" a.zd:=by rw[aT];exact T.DO.M
theorem Iq (T:Txt K mg a):dJ K (aF a "Match") "is_done" a.ze:=by rw[aT];exact T.Il.M
theorem Ir (T:Txt K mg a):dJ K (aF a "Match") "next_side" a.zf:=by rw[aT];exact T.Im.M
theorem Iu (T:Txt K mg a):dJ K (aF a "Match") "side_to_start" a.zg:=by rw[aT];exact T.Io.M
theorem Vs (T:Txt K mg a):dJ K (aF a "Match") "start_refusal" a.zh:=by rw[aT];exact T.O7.M
theorem nP (T:Txt K mg a):dJ K (aF a "Innings") "stands" a.zj:=by rw[aM];exact T.r_.M
theorem Vt (T:Txt K mg a):dJ K (aF a "Match") "swap_refusal" a.zk:=by rw[aT];exact T.O8.M
theorem Vu (T:Txt K mg a):dJ K (aF a "Match") "may_follow" a.zl:=by rw[aT];exact T.O9.M
theorem Vv (T:Txt K mg a):dJ K (aF a "Match") "follow_refusal" a.zo:=by rw[aT];exact T.O_.M
theorem Gi (T:Txt K mg a):dJ K (aF a "Innings") "has_gap" a.KG:=by rw[aM];exact T.Pa.M
theorem Vw (T:Txt K mg a):dJ K (aF a "Match") "refusal" a.zq:=by rw[aT];exact T.Pb.M
theorem Vx (T:Txt K mg a):dJ K (aF a "Match") "begin" a.zu:=by rw[aT];exact T.Pc.M
theorem adL (T:Txt K mg a):dJ K (aF a "Innings") "out_by" a.KH:=by rw[aM];exact T.adD.M
theorem Gj (T:Txt K mg a):dJ K (aF a "Innings") "change_ends" a.KI:=by rw[aM];exact T.Pe.M
theorem Pz (T:Txt K mg a):dJ K (aF a "Innings") "leave" a.KJ:=by rw[aM];exact T.Vq.M
theorem adM (T:Txt K mg a):dJ K (aF a "Innings") "fall" a.KL:=by rw[aM];exact T.adE.M
theorem adN (T:Txt K mg a):dJ K (aF a "Innings") "count_fair" a.KN:=by rw[aM];exact T.adF.M
theorem Vy (T:Txt K mg a):dJ K (aF a "Innings") "play" a.zv:=by rw[aM];exact T.Pf.M
theorem Vz (T:Txt K mg a):dJ K (aF a "Match") "play_ball" a.zw:=by rw[aT];exact T.Pg.M
theorem adO (T:Txt K mg a):dJ K (aF a "Innings") "come_in" a.KO:=by rw[aM];exact T.adG.M
theorem adP (T:Txt K mg a):dJ K (aF a "Innings") "bowl_next" a.KP:=by rw[aM];exact T.adH.M
theorem VA (T:Txt K mg a):dJ K (aF a "Innings") "rename" a.zx:=by rw[aM];exact T.Ph.M
theorem VB (T:Txt K mg a):dJ K (aF a "Match") "swap_player" a.zy:=by rw[aT];exact T.Pj.M
theorem VC (T:Txt K mg a):dJ K (aF a "Match") "close" a.zz:=by rw[aT];exact T.Pk.M
theorem VD (T:Txt K mg a):dJ K (aF a "Match") "do" a.zA:=by rw[aT];exact T.Pn.M
theorem adQ (T:Txt K mg a):dJ K (aF a "Innings") "has_left" a.KQ:=by rw[aM];exact T.adI.M
theorem VE (T:Txt K mg a):dJ K (aF a "Match") "ending_due" a.zB:=by rw[aT];exact T.Po.M
theorem VF (T:Txt K mg a):dJ K (aF a "Match") "tell" a.zC:=by rw[aT];exact T.Pp.M
theorem VG (T:Txt K mg a):dJ K (aF a "Match") "state" a.zD:=by rw[aT];exact T.Pq.M
theorem Iv (T:Txt K mg a):dJ K (aF a "Match") "players" a.zE:=by rw[aT];exact T.Ip.M
theorem VH (T:Txt K mg a):dJ K (aF a "Match") "turn" a.zF:=by rw[aT];exact T.Pr.M
theorem VI (T:Txt K mg a):dJ K (aF a "Match") "log" a.zG:=by rw[aT];exact T.Pu.M
end
local macro_rules
 | `(tactic|simp?[$x,*])=>`(tactic|simp only[↓bp,bx,simprocAttr,$x,*])
local macro_rules
 | `(tactic|exists $es,*)=>`(tactic|repeat' first|exact di _|exact abX|exact abY|exact ux|refine lC ?_ ?_|refine jJ ?_ ?_|refine jW ?_|exact ng|refine aiw ?_ ?_|refine lE ?_|refine rR ?_ ?_ ?_|refine aos _ (by assumption) ?_|refine iM (by first|exact Ud|exact NQ|exact NK|exact NL|exact air|exact ais|exact Ue|exact HB) ?_ ?_ (jS _)|refine ab1 ?_|refine ND (by first|exact aiu|exact aiq|exact aip|exact aio|exact ait|exact aqD) ?_ ?_|refine Us ?_|exact Fv|exact yK|refine ab2 ?_|refine Ua ?_|refine aiy ?_ ?_ ?_|refine Ui ?_|exact alZ|refine ab0 ?_ ?_ ?_|refine iK (by first|exact Ud|exact NQ|exact NK|exact NL|exact air|exact ais|exact Ue|exact HB) ?_ ?_ (jS _)|refine abZ ?_ ?_|refine T9 ?_|refine W5 ?_ ?_|refine NI ?_|refine Fx ?_|refine Ax ?_ ?_|refine ail ?_ ?_|refine Uv ?_|refine acg ?_ ?_|refine aox ?_ ?_|refine uE ?_ ?_|exact HG|exact Uy|refine Uz ?_|refine aik aiv ?_|refine NH ?_ $[| refine $es]* | refine uv ?_|refine LM.t ?_)
section
variable {P:Program}{w:World}{K:W.Frag}{mg:Str->Option Value}{base:Heap}{a:Ad}
abbrev YM:List Str:=["_law_script","_law_cells"]
theorem PB:au YM ["_law_script"] (aj Xp):=fV
def DQ:Fn:=dM YM (ao (br 1 (ai fF (bN pT (af (aa 0) ak)) (ai OC (kD (af (mC (.int 0)) ak)) (bN xM (af (ai (CO false) (aa 0) (kD ak)) ak)))))
   (aE (HM [((mC (.str "cells")),(aa 1)),((mC (.str "at")),(mC (.int 0))),((mC (.str "left")),(mC (.int 60))),((mC (.str "number")),(ai Ub (ai bu (aa 1) (mC (.int 0))) (mC (.int 2)))),((mC (.str "digits")),(ai (cC false) (ai qP (ai bu (aa 1) (mC (.int 0))) (mC (.int 2))) (mC (.int 0))))])))
theorem adR (T:Txt K mg a):aP P w K mg base eO 2 a.CY a.u_ ["_law_script"] (dW K (aF a) 1 DQ):=
 aU T.Ym.F PB λ_ _ _ _ _ _=>(by have:=PB.nd;exists (c_ qV T.lM zaR ?_),(ND aji ?_ ?_),(c_ HF T.DJ zcg ?_),(iK ajh ?_ ?_ (jS _)),(HP ?_),(HN ?_ ?_ ?_),N3)
abbrev YN:List Str:=["_law_draw","_law_many","_law_cells","_law_value","_law_k","_law_m"]
theorem PD:au YN ["_law_draw","_law_many"] (aj Xq):=fV
def bL:Fn:=dM YN (ao (br 2 (ai qT (aa 0) (mC (.str "cells"))))
   (ao (cH (mB (ai qT (aa 0) (mC (.str "digits"))))
   (ao (br 3 (ai qP (ai qT (aa 0) (mC (.str "number"))) (aa 1)))
   (ao (oE (aa 0) (mC (.str "number")) (ai Ub (ai qT (aa 0) (mC (.str "number"))) (aa 1)))
   (ao (oE (aa 0) (mC (.str "left")) (ai cY (ai qT (aa 0) (mC (.str "left"))) (mC (.int 1))))
   (ao (cH (mB (ai (cC false) (ai qT (aa 0) (mC (.str "left"))) (mC (.int 0))))
   (ao (oE (aa 0) (mC (.str "at")) (ai fF (ai qT (aa 0) (mC (.str "at"))) (mC (.int 1))))
   (ao (oE (aa 0) (mC (.str "number")) (ai bu (aa 2) (ai qP (ai qT (aa 0) (mC (.str "at"))) (bN iB (af (aa 2) ak)))))
   (oE (aa 0) (mC (.str "left")) (mC (.int 60)))))
   aD)
   (aE (aa 3))))))
   aD)
   (ao (oE (aa 0) (mC (.str "at")) (ai fF (ai qT (aa 0) (mC (.str "at"))) (mC (.int 1))))
   (ao (br 4 (ai qT (aa 0) (mC (.str "at"))))
   (ao (br 5 (ai qP (ai sJ (ai fF (ai fF (ai qP (ai bu (aa 2) (ai qP (aa 4) (bN iB (af (aa 2) ak)))) (mC (.int 2147483629))) (ai sJ (ai sJ (aa 4) (aa 4)) (mC (.int 7919)))) (mC (.int 11))) (mC (.int 48271))) (mC (.int 2147483647))))
   (ao (br 5 (ai qP (ai sJ (aa 5) (aa 5)) (mC (.int 1999999973))))
   (aE (ai qP (ai Ub (aa 5) (mC (.int 7))) (aa 1)))))))))
theorem o6 (T:Txt K mg a):aP P w K mg base eO 2 a.CZ a.vc ["_law_draw","_law_many"] (dW K (aF a) 2 bL):=
 aU T.r9.F PD λ_ _ _ _ _ _=>(by have:=PD.nd;exists (ab7 ?_ ?_),(AE ?_ ?_ ?_),(cF jI T.jO zaS ?_))
abbrev YO:List Str:=["_law_draw","_law_rules_here","_law_side"]
theorem PF:au YO ["_law_draw"] (aj Xr):=fV
def Iw:Fn:=dM YO (ao (br 1 (rP (af (ai fF (mC (.int 1)) (dR 2 bL (af (aa 0) (af (mC (.int 6)) ak)))) (af (dR 2 bL (af (aa 0) (af (mC (.int 5)) ak))) (af (dR 2 bL (af (aa 0) (af (mC (.int 3)) ak))) (af (dR 2 bL (af (aa 0) (af (mC (.int 3)) ak))) (af (dR 2 bL (af (aa 0) (af (mC (.int 3)) ak))) ak)))))))
   (ao (cH (mB (ai (cC false) (dR 2 bL (af (aa 0) (af (mC (.int 4)) ak))) (mC (.int 0))))
   (Kd (kD (af (dR 2 bL (af (aa 0) (af (mC (.int 10)) ak))) (af (dR 2 bL (af (aa 0) (af (mC (.int 10)) ak))) ak))) (OJ (aa 1) (mC (.int 3)) (mC (.int 5))))
   aD)
   (ao (br 2 (ai bu (kD (af (ai fF (mC (.int 2)) (dR 2 bL (af (aa 0) (af (mC (.int 4)) ak)))) (af (mC (.int 11)) ak))) (bN xM (af (ai (cC false) (dR 2 bL (af (aa 0) (af (mC (.int 8)) ak))) (mC (.int 0))) ak))))
   (aE (bN qU (af (ai fF (aa 1) (kD (af (aa 2) (af (ai fF (mC (.int 1)) (dR 2 bL (af (aa 0) (af (mC (.int 2)) ak)))) (af (ai sJ (dR 2 bL (af (aa 0) (af (mC (.int 2)) ak))) (mC (.int 5))) ak))))) ak))))))
theorem adS (T:Txt K mg a):aP P w K mg base eO 3 a.C0 a.vd ["_law_draw"] (dW K (aF a) 1 Iw):=
 aU T.Yn.F PF λ_ _ _ _ _ _=>(by have:=PF.nd;exists (cL (o6 T) T.r9 ?_),(ads ?_ ?_ ?_),(c_ HF T.DJ zcg ?_),(c_ HE T.ql zbW ?_))
abbrev YQ:List Str:=["teams","word","names","name","players"]
theorem Bj:au YQ ["teams","word"] (aj OW):=fV
def DR:Fn:=dM YQ (ao (cH (mB (ai (cC false) (aa 1) (mC (.str "team"))))
   (aE (fD (qX iL (aa 0)) [] 2 (kH 2 (dw (bB 0) (dw (bB 1) pU))) iV (aa 0)))
   aD)
   (ao (br 2 (rP ak))
   (ao (xP (qX iL (aa 0)) (kH 2 (dw (bB 3) (dw (bB 4) pU)))
   (fB (xN LS Um (aa 2) (af (aa 4) ak))))
   (aE (aa 2)))))
theorem PK (T:Txt K mg a):aP P w K mg base eO 2 a.C1 a.ve ["teams","word"] (dW K (aF a) 2 DR):=
 aU T.O5.F Bj λ_ _ _ _ _ _=>(by have:=Bj.nd;exists (gf (F:=[]) (T:=["name","players"]) (fr:=[]) (EH OW (by decide +kernel)) ?_ (λ_ _ _ _ _=>?_) (λ_ _ _ _ _=>?_) (λ_ _ _ _ _=>?_)),(m_ (n:=2) ?_),(eB 0 (show (["name","players"]:List Str).Nodup by decide +kernel)),(eB 1 (show (["name","players"]:List Str).Nodup by decide +kernel)),(oV zch ?_ ?_ ?_),(eB 3 Bj.nd),(eB 4 Bj.nd),(qW zbo PySem.F.slot_list_extend PySem.F.type_list_extend oU NV ?_ ?_))
abbrev YR:List Str:=["self","rules","teams"]
theorem PM:au YR ["self","rules","teams"] (aj OX):=fV
def Iz:Fn:=dM YR (ao (cg ["Match"] "rules" (aa 0) (aa 1))
   (ao (cg ["Match"] "sides" (aa 0) (fD (qX iL (aa 2)) [] 2 (kH 2 (dw (bB 0) (dw (bB 1) pU))) iV (dm (af (aa 0) (af (bN pT (af (aa 1) ak)) ak)))))
   (ao (cg ["Match"] "known" (aa 0) (dR 2 DR (af (aa 2) (af (mC (.str "player")) ak))))
   (ao (cg ["Match"] "played" (aa 0) (rP ak))
   (ao (cg ["Match"] "followed" (aa 0) (mC (.bl false)))
   (ao (cg ["Match"] "closed" (aa 0) (mC (.bl false)))
   (cg ["Match"] "balls_told" (aa 0) (rP ak))))))))
theorem adT (T:Txt K mg a):aP P w K mg base eO 3 a.u9 a.vf ["self","rules","teams"] (dW K (aF a) 3 Iz):=
 aU T.Yo.F PM λ_ _ _ _ _ _=>(by have:=PM.nd;exists (aX (rq T) ?_ ?_),(aX (jo T) ?_ ?_),(gf (F:=[]) (T:=["name","players"]) (fr:=[]) (EH OX (by decide +kernel)) ?_ (λ_ _ _ _ _=>?_) (λ_ _ _ _ _=>?_) (λ_ _ _ _ _=>?_)),(m_ (n:=2) ?_),(eB 0 (show (["name","players"]:List Str).Nodup by decide +kernel)),(eB 1 (show (["name","players"]:List Str).Nodup by decide +kernel)),(c_ qV T.lM zaR ?_),(aX (Ge T) ?_ ?_),(cL (PK T) T.O5 ?_),(aX (jY T) ?_ ?_),(aX (Bf T) ?_ ?_),(aX (Gf T) ?_ ?_),(aX (Gg T) ?_ ?_))
abbrev YS:List Str:=["_law_draw","_law_side","_law_letters","_law_first","_law_one","_law_other","_law_names"]
theorem Bk:au YS ["_law_draw","_law_side"] (aj Ij):=fV
def IA:Fn:=dM YS (ao (br 2 (mC (.str "abcdfghjklmp")))
   (ao (br 3 (dR 2 bL (af (aa 0) (af (mC (.int 12)) ak))))
   (ao (br 4 (fD (yN (af (aa 1) ak)) [2,0,3] 1 (bB 3) iV (ai fF (ai sJ (mC (.str "t")) (ai fF (mC (.int 1)) (dR 2 bL (af (aa 1) (af (mC (.int 3)) ak))))) (ai bu (aa 0) (ai qP (ai fF (aa 2) (aa 3)) (mC (.int 12)))))))
   (ao (br 5 (fD (yN (af (aa 1) ak)) [2,0,3] 1 (bB 3) iV (ai fF (ai fF (mC (.str "v")) (ai bu (aa 0) (ai qP (ai fF (aa 2) (aa 3)) (mC (.int 12))))) (ai sJ (mC (.str "v")) (dR 2 bL (af (aa 1) (af (mC (.int 3)) ak)))))))
   (ao (br 6 (kD (af (ai bu (aa 4) (mC (.int 0))) (af (mC (.str "vx")) ak))))
   (ao (cH (mB (ai (cC false) (dR 2 bL (af (aa 0) (af (mC (.int 2)) ak))) (mC (.int 0))))
   (br 6 (kD (af (mC (.str "tz")) (af (ai bu (aa 5) (T8 Az (mC (.int 1)))) ak))))
   aD)
   (aE (kD (af (dm (af (ai bu (aa 6) (mC (.int 0))) (af (aa 4) ak))) (af (dm (af (ai bu (aa 6) (mC (.int 1))) (af (aa 5) ak))) ak))))))))))
theorem adU (T:Txt K mg a):aP P w K mg base eO 3 a.C2 a.vg ["_law_draw","_law_side"] (dW K (aF a) 2 IA):=
 aU T.Yp.F Bk λ_ _ _ _ _ _=>(by have:=Bk.nd;exists (cL (o6 T) T.r9 ?_),(AJ (target:=.Name "_law_k" _) (i0:=4) (F:=["_law_letters","_law_draw","_law_first"]) (T:=["_law_k"]) (fr:=[2,0,3]) (EH Ij (by decide +kernel)) ?_ (λ_ _ _ _ _=>?_) (λ_ _ _ _ _=>?_) (λ_ _ _ _ _=>?_) Bk.nd rfl rfl rfl),(AH T.Ba ?_),(eB 3 (show (["_law_letters","_law_draw","_law_first","_law_k"]:List Str).Nodup by decide +kernel)),(AJ (target:=.Name "_law_k" _) (i0:=5) (F:=["_law_letters","_law_draw","_law_first"]) (T:=["_law_k"]) (fr:=[2,0,3]) (EH Ij (by decide +kernel)) ?_ (λ_ _ _ _ _=>?_) (λ_ _ _ _ _=>?_) (λ_ _ _ _ _=>?_) Bk.nd rfl rfl rfl))
abbrev YT:List Str:=["self"]
theorem PN:au YT ["self"] (aj Xs):=fV
def jq:Fn:=dM YT (ao (cH (Fw (mB (ai (cC false) (bN iB (af (bw ["Match"] "played" (aa 0)) ak)) (mC (.int 0)))) (mB (ai (cC true) (bw ["Innings"] "ending" (ai bu (bw ["Match"] "played" (aa 0)) (T8 Az (mC (.int 1))))) (mC (.str "")))))
   (aE (mC .bq))
   aD)
   (aE (ai bu (bw ["Match"] "played" (aa 0)) (T8 Az (mC (.int 1))))))
theorem iP (T:Txt K mg a):aP P w K mg base eO 2 a.y9 a.vh ["self"] (dW K (aF a) 1 jq):=
 aU T.jP.F PN λ_ _ _ _ _ _=>(by have:=PN.nd;exists (cF jI T.jO zaS ?_),(aB (jY T) ?_),(aB (wN T) ?_))
abbrev YU:List Str:=["self"]
theorem PR:au YU ["self"] (aj Xu):=fV
def wO:Fn:=dM YU (aE (ai sJ (mC (.int 2)) (ai bu (bw ["Match"] "rules" (aa 0)) (mC (.int 6)))))
theorem Gk (T:Txt K mg a):aP P w K mg base eO 2 a.y_ a.vj ["self"] (dW K (aF a) 1 wO):=
 aU T.DN.F PR λ_ _ _ _ _ _=>(by have:=PR.nd;exists (cE T.qo),(aB (rq T) ?_),(cE T.Bc))
abbrev YV:List Str:=["self","side"]
theorem PU:au YV ["self","side"] (aj OY):=fV
def DS:Fn:=rS (dM YV (aE (bN Cz (af (fD (qX iL (bw ["Match"] "played" (aa 0))) [1] 1 (bB 1) (mB (ai (cC false) (bw ["Innings"] "side" (aa 1)) (aa 0))) (bw ["Innings"] "total" (aa 1))) ak))))
theorem adV (T:Txt K mg a):aP P w K mg base eO 2 a.zc a.vm ["self","side"] (dW K (aF a) 2 DS):=
 aP.pure (aU T.O6.F PU λ_ _ _ _ _ _=>(by have:=PU.nd;exists (cF W_ T.Yk zfa ?_),(gf (F:=["side"]) (T:=["innings"]) (fr:=[1]) (EH OY (by decide +kernel)) ?_ (λ_ _ _ _ _=>?_) (λ_ _ _ _ _=>?_) (λ_ _ _ _ _=>?_)),(aB (jY T) ?_),(eB 1 (show (["side","innings"]:List Str).Nodup by decide +kernel)),(aB (nu T) ?_),(aB (Be T) ?_)))
abbrev YW:List Str:=["self","side"]
theorem PV:au YW ["self","side"] (aj Xv):=fV
def zK:Fn:=dM YW (aE (ai cY (aO "Match" "total_of" 2 DS (aa 0) (af (aa 1) ak)) (aO "Match" "total_of" 2 DS (aa 0) (af (ai cY (mC (.int 1)) (aa 1)) ak))))
theorem Gm (T:Txt K mg a):aP P w K mg base eO 3 a.zd a.vn ["self","side"] (dW K (aF a) 2 zK):=
 aU T.DO.F PV λ_ _ _ _ _ _=>(by have:=PV.nd;exists (bM (aA T) (Vr T) (adV T) (by decide) T.O6.b aG ?_ ?_))
abbrev YX:List Str:=["self","count"]
theorem PX:au YX ["self"] (aj Xw):=fV
def DT:Fn:=dM YX (ao (cH (mB (bw ["Match"] "closed" (aa 0)))
   (aE (mC (.bl true)))
   aD)
   (ao (cH (mB (ai (iY true) (aO "Match" "going" 1 jq (aa 0) ak) (mC .bq)))
   (aE (mC (.bl false)))
   aD)
   (ao (br 1 (bN iB (af (bw ["Match"] "played" (aa 0)) ak)))
   (ao (cH (nX (mB (ai (cC false) (aa 1) (ai cY (mC (.int 4)) (mC (.int 1))))) (mB (ai (cC false) (aO "Match" "most_innings" 1 wO (aa 0) ak) (mC (.int 4)))))
   (aE (ai W7 (aO "Match" "lead_of" 2 zK (aa 0) (af (bw ["Innings"] "side" (ai bu (bw ["Match"] "played" (aa 0)) (T8 Az (mC (.int 1))))) ak)) (mC (.int 0))))
   aD)
   (aE (ai gGe (aa 1) (aO "Match" "most_innings" 1 wO (aa 0) ak)))))))
theorem PY (T:Txt K mg a):aP P w K mg base eO 4 a.ze a.vo ["self"] (dW K (aF a) 1 DT):=
 aU T.Il.F PX λ_ _ _ _ _ _=>(by have:=PX.nd;exists (aB (Gf T) ?_),(aR (aA T) (gi T) (iP T) (by decide) T.jP.b aG ?_),(cF jI T.jO zaS ?_),(aB (jY T) ?_),(cE T.qm),(aR (aA T) (Bg T) (Gk T) (by decide) T.DN.b aG ?_),(bM (aA T) (Bh T) (Gm T) (by decide) T.DO.b aG ?_ ?_),(aB (nu T) ?_))
abbrev YY:List Str:=["self","last"]
theorem PZ:au YY ["self"] (aj Xx):=fV
def DU:Fn:=dM YY (ao (cH (Fw (mB (ai (cC false) (bN iB (af (bw ["Match"] "played" (aa 0)) ak)) (mC (.int 0)))) (Fw (mB (ai (iY true) (aO "Match" "going" 1 jq (aa 0) ak) (mC .bq))) (mB (aO "Match" "is_done" 1 DT (aa 0) ak))))
   (aE (mC .bq))
   aD)
   (ao (br 1 (bw ["Innings"] "side" (ai bu (bw ["Match"] "played" (aa 0)) (T8 Az (mC (.int 1))))))
   (ao (cH (nX (mB (bw ["Match"] "followed" (aa 0))) (mB (ai (cC false) (bN iB (af (bw ["Match"] "played" (aa 0)) ak)) (mC (.int 2)))))
   (aE (aa 1))
   aD)
   (aE (ai cY (mC (.int 1)) (aa 1))))))
theorem P1 (T:Txt K mg a):aP P w K mg base eO 5 a.zf a.vp ["self"] (dW K (aF a) 1 DU):=
 aU T.Im.F PZ λ_ _ _ _ _ _=>(by have:=PZ.nd;exists (cF jI T.jO zaS ?_),(aB (jY T) ?_),(aR (aA T) (gi T) (iP T) (by decide) T.jP.b aG ?_),(aR (aA T) (Iq T) (PY T) (by decide) T.Il.b aG ?_),(aB (nu T) ?_),(aB (Bf T) ?_))
abbrev YZ:List Str:=["self","team","side"]
theorem Gn:au YZ ["self","team"] (aj Xy):=fV
def DW:Fn:=dM YZ (ao (xP (yN (af (mC (.int 2)) ak)) (bB 2)
   (cH (nX (mB (ai (cC false) (ai bu (ai bu (bw ["Match"] "sides" (aa 0)) (aa 2)) (mC (.int 0))) (aa 1))) (Fw (mB (ai (cC false) (bN iB (af (bw ["Match"] "played" (aa 0)) ak)) (mC (.int 0)))) (mB (ai (cC false) (aa 2) (aO "Match" "next_side" 1 DU (aa 0) ak)))))
   (aE (aa 2))
   aD))
   (aE (mC .bq)))
theorem P4 (T:Txt K mg a):aP P w K mg base eO 6 a.zg a.vq ["self","team"] (dW K (aF a) 2 DW):=
 aU T.Io.F Gn λ_ _ _ _ _ _=>(by have:=Gn.nd;exists (oV zch ?_ ?_ ?_),(AH T.Ba ?_),(cE T.qo),(eB 2 Gn.nd),(aB (jo T) ?_),(cF jI T.jO zaS ?_),(aB (jY T) ?_),(aR (aA T) (Ir T) (P1 T) (by decide) T.Im.b aG ?_))
abbrev Y0:List Str:=["self","entry","side","batting","fielding"]
theorem P5:au Y0 ["self","entry"] (aj Xz):=fV
def IB:Fn:=dM Y0 (ao (cH (mB (ai (iY true) (aO "Match" "going" 1 jq (aa 0) ak) (mC .bq)))
   (aE (mC (.str "going")))
   aD)
   (ao (br 2 (aO "Match" "side_to_start" 2 DW (aa 0) (af (ai bu (aa 1) (mC (.int 1))) ak)))
   (ao (cH (mB (ai (iY false) (aa 2) (mC .bq)))
   (aE (mC (.str "turn")))
   aD)
   (ao (br 3 (ai bu (ai bu (bw ["Match"] "sides" (aa 0)) (aa 2)) (mC (.int 1))))
   (ao (br 4 (ai bu (ai bu (bw ["Match"] "sides" (aa 0)) (ai cY (mC (.int 1)) (aa 2))) (mC (.int 1))))
   (ao (cH (Fw (mB (ai (w_ true) (ai bu (aa 1) (mC (.int 2))) (aa 3))) (Fw (mB (ai (w_ true) (ai bu (aa 1) (mC (.int 3))) (aa 3))) (mB (ai (w_ true) (ai bu (aa 1) (mC (.int 4))) (aa 4)))))
   (aE (mC (.str "team")))
   aD)
   (aE (BG (mB (ai (cC false) (ai bu (aa 1) (mC (.int 2))) (ai bu (aa 1) (mC (.int 3))))) (mC (.str "alike")) (mC .bq)))))))))
theorem adW (T:Txt K mg a):aP P w K mg base eO 7 a.zh a.vz ["self","entry"] (dW K (aF a) 2 IB):=
 aU T.O7.F P5 λ_ _ _ _ _ _=>(by have:=P5.nd;exists (aR (aA T) (gi T) (iP T) (by decide) T.jP.b aG ?_),(bM (aA T) (Iu T) (P4 T) (by decide) T.Io.b aG ?_ ?_),(aB (jo T) ?_),(iM Cu ?_ ?_ (by with_unfolding_all rfl)))
abbrev Y3:List Str:=["self","name"]
theorem P6:au Y3 ["self","name"] (aj XA):=fV
def qt:Fn:=dM Y3 (aE (ai (w_ false) (aa 1) (dm (af (bw ["Innings"] "facing" (aa 0)) (af (bw ["Innings"] "other" (aa 0)) ak)))))
theorem rA (T:Txt K mg a):aP P w K mg base eO 2 a.zj a.vA ["self","name"] (dW K (aF a) 2 qt):=
 aU T.r_.F P6 λ_ _ _ _ _ _=>(by have:=P6.nd;exists (iK AD ?_ ?_ (by with_unfolding_all rfl)),(aB (iO T) ?_),(aB (nv T) ?_))
abbrev Y4:List Str:=["innings","old"]
theorem P7:au Y4 ["innings","old"] (aj XC):=fV
def IC:Fn:=dM Y4 (aE (BG (Fw (mB (aO "Innings" "stands" 2 qt (aa 0) (af (aa 1) ak))) (mB (ai (cC false) (aa 1) (bw ["Innings"] "bowler" (aa 0))))) (mC (.str "there")) (mC .bq)))
theorem adX (T:Txt K mg a):aP P w K mg base eO 3 a.C3 a.vD ["innings","old"] (dW K (aF a) 2 IC):=
 aU T.Yq.F P7 λ_ _ _ _ _ _=>(by have:=P7.nd;exists (bM (aQ T) (nP T) (rA T) (by decide) T.r_.b aG ?_ ?_),(aB (lN T) ?_))
abbrev Y5:List Str:=["self","old","new","going"]
theorem P8:au Y5 ["self","old","new"] (aj XD):=fV
def ID:Fn:=dM Y5 (ao (cH (mB (ai (w_ true) (aa 1) (dR 2 DR (af (bw ["Match"] "sides" (aa 0)) (af (mC (.str "player")) ak)))))
   (aE (mC (.str "team")))
   aD)
   (ao (cH (mB (ai (w_ false) (aa 2) (bw ["Match"] "known" (aa 0))))
   (aE (mC (.str "name")))
   aD)
   (ao (br 3 (aO "Match" "going" 1 jq (aa 0) ak))
   (aE (BG (mB (ai (iY false) (aa 3) (mC .bq))) (mC .bq) (dR 2 IC (af (aa 3) (af (aa 1) ak))))))))
theorem adY (T:Txt K mg a):aP P w K mg base eO 4 a.zk a.vE ["self","old","new"] (dW K (aF a) 3 ID):=
 aU T.O8.F P8 λ_ _ _ _ _ _=>(by have:=P8.nd;exists (iM Cu ?_ ?_ (by with_unfolding_all rfl)),(cL (PK T) T.O5 ?_),(aB (jo T) ?_),(iM AD ?_ ?_ (by with_unfolding_all rfl)),(aB (Ge T) ?_),(aR (aA T) (gi T) (iP T) (by decide) T.jP.b aG ?_),(cL (adX T) T.Yq ?_))
abbrev Y6:List Str:=["self"]
theorem P9:au Y6 ["self"] (aj XE):=fV
def IE:Fn:=dM Y6 (ao (cH (Fw (mB (ai (cC true) (bN iB (af (bw ["Match"] "played" (aa 0)) ak)) (mC (.int 2)))) (Fw (mB (ai (cC true) (aO "Match" "most_innings" 1 wO (aa 0) ak) (mC (.int 4)))) (mB (bw ["Match"] "followed" (aa 0)))))
   (aE (mC (.bl false)))
   aD)
   (aE (mW W7 gLe (mC (.int 0)) (ai bu (bw ["Match"] "rules" (aa 0)) (mC (.int 7))) (aO "Match" "lead_of" 2 zK (aa 0) (af (bw ["Innings"] "side" (ai bu (bw ["Match"] "played" (aa 0)) (mC (.int 0)))) ak)))))
theorem adZ (T:Txt K mg a):aP P w K mg base eO 4 a.zl a.vF ["self"] (dW K (aF a) 1 IE):=
 aU T.O9.F P9 λ_ _ _ _ _ _=>(by have:=P9.nd;exists (cF jI T.jO zaS ?_),(aB (jY T) ?_),(aR (aA T) (Bg T) (Gk T) (by decide) T.DN.b aG ?_),(cE T.qm),(aB (Bf T) ?_),(NG NK NL ?_ ?_ ?_),(aB (rq T) ?_),(cE T.DL),(bM (aA T) (Bh T) (Gm T) (by decide) T.DO.b aG ?_ ?_),(aB (nu T) ?_))
abbrev Y7:List Str:=["self"]
theorem P_:au Y7 ["self"] (aj XF):=fV
def IG:Fn:=dM Y7 (ao (cH (mB (ai (iY true) (aO "Match" "going" 1 jq (aa 0) ak) (mC .bq)))
   (aE (mC (.str "going")))
   aD)
   (aE (BG (mB (aO "Match" "may_follow" 1 IE (aa 0) ak)) (mC .bq) (mC (.str "follow")))))
theorem ad0 (T:Txt K mg a):aP P w K mg base eO 5 a.zo a.vG ["self"] (dW K (aF a) 1 IG):=
 aU T.O_.F P_ λ_ _ _ _ _ _=>(by have:=P_.nd;exists (aR (aA T) (gi T) (iP T) (by decide) T.jP.b aG ?_),(aR (aA T) (Vu T) (adZ T) (by decide) T.O9.b aG ?_))
abbrev akj:List Str:=["self"]
theorem Y8:au akj ["self"] (aj ajP):=fV
def K0:Fn:=dM akj (aE (aO "Innings" "stands" 2 qt (aa 0) (af (mC (.str "")) ak)))
theorem Qa (T:Txt K mg a):aP P w K mg base eO 3 a.KG a.Dy ["self"] (dW K (aF a) 1 K0):=
 aU T.Pa.F Y8 λ_ _ _ _ _ _=>(by have:=Y8.nd;exists (bM (aQ T) (nP T) (rA T) (by decide) T.r_.b aG ?_ ?_))
abbrev Y9:List Str:=["kind","runs"]
theorem Qc:au Y9 ["kind","runs"] (aj XG):=fV
def II:Fn:=dM Y9 (aE (W6 (ai (cC false) (aa 1) (mC (.int 4))) (lz (ai (cC false) (aa 1) (mC (.int 6))) (ai (w_ false) (aa 0) (dm (af (mC (.str "bat")) (af (mC (.str "no")) ak)))))))
theorem ad1 (T:Txt K mg a):aP P w K mg base eO 2 a.C4 a.vH ["kind","runs"] (dW K (aF a) 2 II):=
 aU T.Yr.F Qc λ_ _ _ _ _ _=>(by have:=Qc.nd;exists (cE T.adC),(cE T.aj0),(iK AD ?_ ?_ (by with_unfolding_all rfl)))
abbrev Y_:List Str:=["kind","runs","rope","way"]
theorem Qd:au Y_ ["kind","runs","rope","way"] (aj XH):=fV
def IJ:Fn:=dM Y_ (ao (cH (mB (ai (cC false) (aa 3) (mC (.str ""))))
   (aE (mC (.bl true)))
   aD)
   (ao (cH (mB (aa 2))
   (aE (mC (.bl false)))
   aD)
   (ao (cH (mB (ai (cC false) (aa 3) (mC (.str "run"))))
   (aE (mC (.bl true)))
   aD)
   (ao (cH (mB (ai (cC true) (aa 1) (mC (.int 0))))
   (aE (mC (.bl false)))
   aD)
   (ao (cH (mB (ai (w_ false) (aa 3) (dm (af (mC (.str "stumped")) (af (mC (.str "hit")) ak)))))
   (aE (ai (w_ false) (aa 0) (dm (af (mC (.str "bat")) (af (mC (.str "wide")) ak)))))
   aD)
   (aE (ai (cC false) (aa 0) (mC (.str "bat")))))))))
theorem ad2 (T:Txt K mg a):aP P w K mg base eO 2 a.C5 a.vI ["kind","runs","rope","way"] (dW K (aF a) 4 IJ):=
 aU T.Ys.F Qd λ_ _ _ _ _ _=>(by have:=Qd.nd;exists (iM AD ?_ ?_ (by with_unfolding_all rfl)),(iK AD ?_ ?_ (by with_unfolding_all rfl)))
abbrev Za:List Str:=["entry","kind","runs","rope"]
theorem Qe:au Za ["entry"] (aj XI):=fV
def IK:Fn:=dM Za (ao (br 1 (ai bu (aa 0) (mC (.int 1))))
   (ao (br 2 (ai bu (aa 0) (mC (.int 2))))
   (ao (br 3 (ai bu (aa 0) (mC (.int 3))))
   (ao (cH (nX (mB (aa 3)) (xK (mB (dR 2 II (af (aa 1) (af (aa 2) ak))))))
   (aE (mC (.str "rope")))
   aD)
   (ao (cH (xK (mB (dR 4 IJ (af (aa 1) (af (aa 2) (af (aa 3) (af (ai bu (aa 0) (mC (.int 4))) ak)))))))
   (aE (mC (.str "way")))
   aD)
   (aE (mC .bq)))))))
theorem ad3 (T:Txt K mg a):aP P w K mg base eO 3 a.C6 a.vJ ["entry"] (dW K (aF a) 1 IK):=
 aU T.Yt.F Qe λ_ _ _ _ _ _=>(by have:=Qe.nd;exists (cL (ad1 T) T.Yr ?_),(cL (ad2 T) T.Ys ?_))
abbrev Zb:List Str:=["innings","entry","fault"]
theorem Qf:au Zb ["innings","entry"] (aj XJ):=fV
def IL:Fn:=dM Zb (ao (cH (mB (aO "Innings" "has_gap" 1 K0 (aa 0) ak))
   (aE (mC (.str "empty")))
   aD)
   (ao (cH (mB (ai (cC false) (bw ["Innings"] "bowler" (aa 0)) (mC (.str ""))))
   (aE (mC (.str "bowler")))
   aD)
   (ao (br 2 (dR 1 IK (af (aa 1) ak)))
   (ao (cH (nX (mB (ai (iY false) (aa 2) (mC .bq))) (nX (mB (ai (cC false) (ai bu (aa 1) (mC (.int 4))) (mC (.str "run")))) (xK (mB (aO "Innings" "stands" 2 qt (aa 0) (af (ai bu (aa 1) (mC (.int 5))) ak))))))
   (aE (mC (.str "who")))
   aD)
   (aE (aa 2))))))
theorem ad4 (T:Txt K mg a):aP P w K mg base eO 4 a.C7 a.vK ["innings","entry"] (dW K (aF a) 2 IL):=
 aU T.Yu.F Qf λ_ _ _ _ _ _=>(by have:=Qf.nd;exists (aR (aQ T) (Gi T) (Qa T) (by decide) T.Pa.b aG ?_),(aB (lN T) ?_),(cL (ad3 T) T.Yt ?_),(bM (aQ T) (nP T) (rA T) (by decide) T.r_.b aG ?_ ?_))
abbrev Zc:List Str:=["innings","batting","name"]
theorem Qg:au Zc ["innings","batting","name"] (aj XM):=fV
def IM:Fn:=dM Zc (ao (cH (xK (mB (aO "Innings" "has_gap" 1 K0 (aa 0) ak)))
   (aE (mC (.str "full")))
   aD)
   (ao (cH (mB (ai (w_ true) (aa 2) (aa 1)))
   (aE (mC (.str "team")))
   aD)
   (ao (cH (mB (ai (Cv false) (aa 2) (bw ["Innings"] "outs" (aa 0))))
   (aE (mC (.str "out")))
   aD)
   (aE (BG (mB (aO "Innings" "stands" 2 qt (aa 0) (af (aa 2) ak))) (mC (.str "there")) (mC .bq))))))
theorem ad5 (T:Txt K mg a):aP P w K mg base eO 4 a.C8 a.vL ["innings","batting","name"] (dW K (aF a) 3 IM):=
 aU T.Yv.F Qg λ_ _ _ _ _ _=>(by have:=Qg.nd;exists (aR (aQ T) (Gi T) (Qa T) (by decide) T.Pa.b aG ?_),(iM Cu ?_ ?_ (by with_unfolding_all rfl)),(ab6 ?_ ?_),(aB (nN T) ?_),(bM (aQ T) (nP T) (rA T) (by decide) T.r_.b aG ?_ ?_))
abbrev Zd:List Str:=["innings","fielding","spell","name"]
theorem Qh:au Zd ["innings","fielding","spell","name"] (aj XN):=fV
def IP:Fn:=dM Zd (ao (cH (mB (ai (cC true) (bw ["Innings"] "bowler" (aa 0)) (mC (.str ""))))
   (aE (mC (.str "bowling")))
   aD)
   (ao (cH (mB (ai (w_ true) (aa 3) (aa 1)))
   (aE (mC (.str "team")))
   aD)
   (ao (cH (mB (ai (cC false) (aa 3) (bw ["Innings"] "ahead" (aa 0))))
   (aE (mC (.str "twice")))
   aD)
   (ao (cH (mB (mW W7 gLe (mC (.int 0)) (aa 2) (HQ (bw ["Innings"] "spells" (aa 0)) (aa 3) (mC (.int 0)))))
   (aE (mC (.str "spell")))
   aD)
   (aE (mC .bq))))))
theorem ad6 (T:Txt K mg a):aP P w K mg base eO 2 a.C9 a.vM ["innings","fielding","spell","name"] (dW K (aF a) 4 IP):=
 aU T.Yw.F Qh λ_ _ _ _ _ _=>(by have:=Qh.nd;exists (aB (lN T) ?_),(iM Cu ?_ ?_ (by with_unfolding_all rfl)),(aB (wL T) ?_),(Cp NK NL ?_ ?_ ?_),(HS ?_ ?_ ?_),(aB (qp T) ?_))
abbrev Ze:List Str:=["innings","rules","batting","fielding","entry"]
theorem Qi:au Ze ["innings","rules","batting","fielding","entry"] (aj XO):=fV
def IQ:Fn:=dM Ze (ao (cH (mB (ai (cC false) (ai bu (aa 4) (mC (.int 0))) (mC (.str "ball"))))
   (aE (dR 2 IL (af (aa 0) (af (aa 4) ak))))
   aD)
   (ao (cH (mB (ai (cC false) (ai bu (aa 4) (mC (.int 0))) (mC (.str "in"))))
   (aE (dR 3 IM (af (aa 0) (af (aa 2) (af (ai bu (aa 4) (mC (.int 1))) ak)))))
   aD)
   (ao (cH (mB (ai (cC false) (ai bu (aa 4) (mC (.int 0))) (mC (.str "bowl"))))
   (aE (dR 4 IP (af (aa 0) (af (aa 3) (af (ai bu (aa 1) (mC (.int 2))) (af (ai bu (aa 4) (mC (.int 1))) ak))))))
   aD)
   (ao (cH (mB (ai (cC false) (ai bu (aa 4) (mC (.int 0))) (mC (.str "hurt"))))
   (aE (BG (mB (aO "Innings" "stands" 2 qt (aa 0) (af (ai bu (aa 4) (mC (.int 1))) ak))) (mC .bq) (mC (.str "who"))))
   aD)
   (aE (mC .bq))))))
theorem ad7 (T:Txt K mg a):aP P w K mg base eO 5 a.C_ a.vN ["innings","rules","batting","fielding","entry"] (dW K (aF a) 5 IQ):=
 aU T.Yx.F Qi λ_ _ _ _ _ _=>(by have:=Qi.nd;exists (cL (ad4 T) T.Yu ?_),(cL (ad5 T) T.Yv ?_),(cL (ad6 T) T.Yw ?_),(cE T.Ga),(bM (aQ T) (nP T) (rA T) (by decide) T.r_.b aG ?_ ?_))
abbrev Zf:List Str:=["self","entry","going","batting","fielding"]
theorem Qj:au Zf ["self","entry"] (aj XQ):=fV
def sf:Fn:=dM Zf (ao (cH (mB (aO "Match" "is_done" 1 DT (aa 0) ak))
   (aE (mC (.str "done")))
   aD)
   (ao (cH (mB (ai (cC false) (ai bu (aa 1) (mC (.int 0))) (mC (.str "start"))))
   (aE (aO "Match" "start_refusal" 2 IB (aa 0) (af (aa 1) ak)))
   aD)
   (ao (cH (mB (ai (cC false) (ai bu (aa 1) (mC (.int 0))) (mC (.str "swap"))))
   (aE (aO "Match" "swap_refusal" 3 ID (aa 0) (af (ai bu (aa 1) (mC (.int 1))) (af (ai bu (aa 1) (mC (.int 2))) ak))))
   aD)
   (ao (cH (mB (ai (cC false) (ai bu (aa 1) (mC (.int 0))) (mC (.str "follow"))))
   (aE (aO "Match" "follow_refusal" 1 IG (aa 0) ak))
   aD)
   (ao (cH (mB (ai (cC false) (ai bu (aa 1) (mC (.int 0))) (mC (.str "close"))))
   (aE (mC .bq))
   aD)
   (ao (br 2 (aO "Match" "going" 1 jq (aa 0) ak))
   (ao (cH (mB (ai (iY false) (aa 2) (mC .bq)))
   (aE (mC (.str "none")))
   aD)
   (ao (br 3 (ai bu (ai bu (bw ["Match"] "sides" (aa 0)) (bw ["Innings"] "side" (aa 2))) (mC (.int 1))))
   (ao (br 4 (ai bu (ai bu (bw ["Match"] "sides" (aa 0)) (ai cY (mC (.int 1)) (bw ["Innings"] "side" (aa 2)))) (mC (.int 1))))
   (aE (dR 5 IQ (af (aa 2) (af (bw ["Match"] "rules" (aa 0)) (af (aa 3) (af (aa 4) (af (aa 1) ak))))))))))))))))
theorem ad8 (T:Txt K mg a):aP P w K mg base eO 8 a.zq a.vO ["self","entry"] (dW K (aF a) 2 sf):=
 aU T.Pb.F Qj λ_ _ _ _ _ _=>(by have:=Qj.nd;exists (aR (aA T) (Iq T) (PY T) (by decide) T.Il.b aG ?_),(bM (aA T) (Vs T) (adW T) (by decide) T.O7.b aG ?_ ?_),(bM (aA T) (Vt T) (adY T) (by decide) T.O8.b aG ?_ ?_),(aR (aA T) (Vv T) (ad0 T) (by decide) T.O_.b aG ?_),(aR (aA T) (gi T) (iP T) (by decide) T.jP.b aG ?_),(aB (jo T) ?_),(aB (nu T) ?_),(cL (ad7 T) T.Yx ?_),(aB (rq T) ?_))
abbrev akk:List Str:=["self","side","facing","other","bowler"]
theorem Zg:au akk ["self","side","facing","other","bowler"] (aj ajQ):=fV
def VJ:Fn:=dM akk (ao (cg ["Innings"] "side" (aa 0) (aa 1))
   (ao (cg ["Innings"] "facing" (aa 0) (aa 2))
   (ao (cg ["Innings"] "other" (aa 0) (aa 3))
   (ao (cg ["Innings"] "bowler" (aa 0) (aa 4))
   (ao (cg ["Innings"] "ahead" (aa 0) (mC (.str "")))
   (ao (cg ["Innings"] "total" (aa 0) (mC (.int 0)))
   (ao (cg ["Innings"] "wickets" (aa 0) (mC (.int 0)))
   (ao (cg ["Innings"] "overs" (aa 0) (mC (.int 0)))
   (ao (cg ["Innings"] "balls" (aa 0) (mC (.int 0)))
   (ao (cg ["Innings"] "ending" (aa 0) (mC (.str "")))
   (ao (cg ["Innings"] "outs" (aa 0) FO)
   (cg ["Innings"] "spells" (aa 0) (HM [((aa 4),(mC (.int 1)))])))))))))))))
theorem akl (T:Txt K mg a):aP P w K mg base eO 2 a.F9 a.Dz ["self","side","facing","other","bowler"] (dW K (aF a) 5 VJ):=
 aU T.aj1.F Zg λ_ _ _ _ _ _=>(by have:=Zg.nd;exists (aX (nu T) ?_ ?_),(aX (iO T) ?_ ?_),(aX (nv T) ?_ ?_),(aX (lN T) ?_ ?_),(aX (wL T) ?_ ?_),(aX (Be T) ?_ ?_),(aX (Gd T) ?_ ?_),(aX (wM T) ?_ ?_),(aX (rm T) ?_ ?_),(aX (wN T) ?_ ?_),(aX (nN T) ?_ ?_),N1,(aX (qp T) ?_ ?_),(HP ?_),(HN ?_ ?_ ?_),N3)
abbrev Zh:List Str:=["self","entry","side"]
theorem Qk:au Zh ["self","entry"] (aj XR):=fV
def IS:Fn:=dM Zh (ao (br 2 (aO "Match" "side_to_start" 2 DW (aa 0) (af (ai bu (aa 1) (mC (.int 1))) ak)))
   (fB (xN LS CA (bw ["Match"] "played" (aa 0)) (af (yO "Innings" 5 VJ (af (aa 2) (af (ai bu (aa 1) (mC (.int 2))) (af (ai bu (aa 1) (mC (.int 3))) (af (ai bu (aa 1) (mC (.int 4))) ak))))) ak))))
theorem ad9 (T:Txt K mg a):aP P w K mg base eO 7 a.zu a.vP ["self","entry"] (dW K (aF a) 2 IS):=
 aU T.Pc.F Qk λ_ _ _ _ _ _=>(by have:=Qk.nd;exists (bM (aA T) (Iu T) (P4 T) (by decide) T.Io.b aG ?_ ?_),(qW zbo zbP zbQ oU mZ ?_ ?_),(aB (jY T) ?_),(HL (c:= "Innings") (Gb T) (akl T) (by decide) (DP T) T.aj1.b aG ?_))
abbrev Zi:List Str:=["rules","kind","runs","wide","noball"]
theorem Ql:au Zi ["rules","kind","runs"] (aj XS):=fV
def IT:Fn:=dM Zi (ao (cH (mB (ai (cC false) (aa 1) (mC (.str "bat"))))
   (aE (dm (af (aa 2) (af (mC (.int 0)) (af (aa 2) ak)))))
   aD)
   (ao (cH (mB (ai (cC false) (aa 1) (mC (.str "wide"))))
   (ao (br 3 (ai fF (ai bu (aa 0) (mC (.int 3))) (aa 2)))
   (aE (dm (af (mC (.int 0)) (af (aa 3) (af (aa 3) ak))))))
   aD)
   (ao (br 4 (ai bu (aa 0) (mC (.int 4))))
   (ao (cH (mB (ai (cC false) (aa 1) (mC (.str "no"))))
   (aE (dm (af (aa 2) (af (aa 4) (af (ai fF (aa 4) (aa 2)) ak)))))
   aD)
   (ao (cH (mB (ai (cC false) (aa 1) (mC (.str "nobye"))))
   (aE (dm (af (mC (.int 0)) (af (ai fF (aa 4) (aa 2)) (af (aa 4) ak)))))
   aD)
   (aE (dm (af (mC (.int 0)) (af (aa 2) (af (mC (.int 0)) ak))))))))))
theorem aea (T:Txt K mg a):aP P w K mg base eO 2 a.Dc a.vQ ["rules","kind","runs"] (dW K (aF a) 3 IT):=
 aU T.Yy.F Ql λ_ _ _ _ _ _=>(by have:=Ql.nd;exists (cE T.KU),(cE T.rZ))
abbrev Zj:List Str:=["rules","entry","kind","runs","by","fair","faced","crossed","credited"]
theorem Qm:au Zj ["rules","entry"] (aj XT):=fV
def DX:Fn:=dM Zj (ao (br 2 (ai bu (aa 1) (mC (.int 1))))
   (ao (br 3 (ai bu (aa 1) (mC (.int 2))))
   (ao (br 4 (dR 3 IT (af (aa 0) (af (aa 2) (af (aa 3) ak)))))
   (ao (br 5 (ai (w_ false) (aa 2) (dm (af (mC (.str "bat")) (af (mC (.str "bye")) (af (mC (.str "leg")) ak))))))
   (ao (br 6 (ai (cC true) (aa 2) (mC (.str "wide"))))
   (ao (br 7 (lz (ai (cC false) (ai qP (aa 3) (mC (.int 2))) (mC (.int 1))) (Kc (ai bu (aa 1) (mC (.int 3))))))
   (ao (br 8 (ai (w_ true) (ai bu (aa 1) (mC (.int 4))) (dm (af (mC (.str "")) (af (mC (.str "run")) ak)))))
   (aE (ai fF (ai fF (dm (af (ai fF (ai bu (aa 4) (mC (.int 0))) (ai bu (aa 4) (mC (.int 1)))) ak)) (aa 4)) (dm (af (aa 5) (af (aa 6) (af (aa 7) (af (aa 8) ak))))))))))))))
theorem Qn (T:Txt K mg a):aP P w K mg base eO 3 a.Dd a.vR ["rules","entry"] (dW K (aF a) 2 DX):=
 aU T.Pd.F Qm λ_ _ _ _ _ _=>(by have:=Qm.nd;exists (cL (aea T) T.Yy ?_),(iK AD ?_ ?_ (by with_unfolding_all rfl)),(Fy ?_),(iK Cu ?_ ?_ (by with_unfolding_all rfl)))
abbrev akm:List Str:=["self","entry"]
theorem Zk:au akm ["self","entry"] (aj ajR):=fV
def VL:Fn:=dM akm (ao (cH (mB (ai (cC false) (ai bu (aa 1) (mC (.int 4))) (mC (.str "run"))))
   (aE (ai bu (aa 1) (mC (.int 5))))
   aD)
   (aE (BG (mB (ai (cC false) (ai bu (aa 1) (mC (.int 4))) (mC (.str "")))) (mC (.str "")) (bw ["Innings"] "facing" (aa 0)))))
theorem akn (T:Txt K mg a):aP P w K mg base eO 2 a.KH a.DA ["self","entry"] (dW K (aF a) 2 VL):=
 aU T.adD.F Zk λ_ _ _ _ _ _=>(by have:=Zk.nd;exists (aB (iO T) ?_))
abbrev ako:List Str:=["self","facing"]
theorem Zl:au ako ["self"] (aj ajS):=fV
def K1:Fn:=dM ako (ao (br 1 (bw ["Innings"] "facing" (aa 0)))
   (ao (cg ["Innings"] "facing" (aa 0) (bw ["Innings"] "other" (aa 0)))
   (cg ["Innings"] "other" (aa 0) (aa 1))))
theorem Qo (T:Txt K mg a):aP P w K mg base eO 2 a.KI a.DB ["self"] (dW K (aF a) 1 K1):=
 aU T.Pe.F Zl λ_ _ _ _ _ _=>(by have:=Zl.nd;exists (aB (iO T) ?_),(aX (iO T) ?_ ?_),(aB (nv T) ?_),(aX (nv T) ?_ ?_))
abbrev akp:List Str:=["self","name"]
theorem Zm:au akp ["self","name"] (aj ajT):=fV
def Qp:Fn:=dM akp (cH (mB (ai (cC false) (bw ["Innings"] "facing" (aa 0)) (aa 1)))
   (cg ["Innings"] "facing" (aa 0) (mC (.str "")))
   (cg ["Innings"] "other" (aa 0) (mC (.str ""))))
theorem Zn (T:Txt K mg a):aP P w K mg base eO 2 a.KJ a.DC ["self","name"] (dW K (aF a) 2 Qp):=
 aU T.Vq.F Zm λ_ _ _ _ _ _=>(by have:=Zm.nd;exists (aB (iO T) ?_),(aX (iO T) ?_ ?_),(aX (nv T) ?_ ?_))
abbrev akq:List Str:=["self","name","end","empty"]
theorem Zo:au akq ["self","name","end"] (aj ajU):=fV
def VM:Fn:=dM akq (ao (oE (bw ["Innings"] "outs" (aa 0)) (aa 1) (mC (.bl true)))
   (ao (yL ["Innings"] "wickets" (λi j=>i+j) (aa 0) (mC (.int 1)))
   (ao (fB (aO "Innings" "leave" 2 Qp (aa 0) (af (aa 1) ak)))
   (ao (br 3 (BG (mB (ai (cC false) (bw ["Innings"] "facing" (aa 0)) (mC (.str "")))) (mC (.str "strike")) (mC (.str "other"))))
   (cH (mB (ai (cC true) (aa 3) (aa 2)))
   (fB (aO "Innings" "change_ends" 1 K1 (aa 0) ak))
   aD)))))
theorem akr (T:Txt K mg a):aP P w K mg base eO 3 a.KL a.DE ["self","name","end"] (dW K (aF a) 3 VM):=
 aU T.adE.F Zo λ_ _ _ _ _ _=>(by have:=Zo.nd;exists (AE ?_ ?_ ?_),(aB (nN T) ?_),(sW sX (Gd T) ?_ ?_),(bM (aQ T) (Pz T) (Zn T) (by decide) T.Vq.b aG ?_ ?_),(aB (iO T) ?_),(aR (aQ T) (Gj T) (Qo T) (by decide) T.Pe.b aG ?_))
abbrev aks:List Str:=["self","over"]
theorem Zp:au aks ["self","over"] (aj ajV):=fV
def VN:Fn:=dM aks (ao (yL ["Innings"] "balls" (λi j=>i+j) (aa 0) (mC (.int 1)))
   (cH (mB (ai gGe (bw ["Innings"] "balls" (aa 0)) (aa 1)))
   (ao (yL ["Innings"] "overs" (λi j=>i+j) (aa 0) (mC (.int 1)))
   (ao (cg ["Innings"] "balls" (aa 0) (mC (.int 0)))
   (ao (fB (aO "Innings" "change_ends" 1 K1 (aa 0) ak))
   (ao (cg ["Innings"] "ahead" (aa 0) (bw ["Innings"] "bowler" (aa 0)))
   (cg ["Innings"] "bowler" (aa 0) (mC (.str "")))))))
   aD))
theorem akt (T:Txt K mg a):aP P w K mg base eO 3 a.KN a.DF ["self","over"] (dW K (aF a) 2 VN):=
 aU T.adF.F Zp λ_ _ _ _ _ _=>(by have:=Zp.nd;exists (sW sX (rm T) ?_ ?_),(aB (rm T) ?_),(sW sX (wM T) ?_ ?_),(aX (rm T) ?_ ?_),(aR (aQ T) (Gj T) (Qo T) (by decide) T.Pe.b aG ?_),(aX (wL T) ?_ ?_),(aB (lN T) ?_),(aX (lN T) ?_ ?_))
abbrev Zq:List Str:=["self","rules","entry","sums","out"]
theorem Qq:au Zq ["self","rules","entry"] (aj XU):=fV
def IU:Fn:=dM Zq (ao (br 3 (dR 2 DX (af (aa 1) (af (aa 2) ak))))
   (ao (br 4 (aO "Innings" "out_by" 2 VL (aa 0) (af (aa 2) ak)))
   (ao (yL ["Innings"] "total" (λi j=>i+j) (aa 0) (ai bu (aa 3) (mC (.int 0))))
   (ao (cH (mB (ai bu (aa 3) (mC (.int 6))))
   (fB (aO "Innings" "change_ends" 1 K1 (aa 0) ak))
   aD)
   (ao (cH (mB (ai (cC true) (aa 4) (mC (.str ""))))
   (fB (aO "Innings" "fall" 3 VM (aa 0) (af (aa 4) (af (BG (mB (ai (cC false) (ai bu (aa 2) (mC (.int 4))) (mC (.str "run")))) (ai bu (aa 2) (mC (.int 6))) (mC (.str "strike"))) ak))))
   aD)
   (ao (cH (mB (ai bu (aa 3) (mC (.int 4))))
   (fB (aO "Innings" "count_fair" 2 VN (aa 0) (af (ai bu (aa 1) (mC (.int 0))) ak)))
   aD)
   (aE (aa 4))))))))
theorem aeb (T:Txt K mg a):aP P w K mg base eO 4 a.zv a.vS ["self","rules","entry"] (dW K (aF a) 3 IU):=
 aU T.Pf.F Qq λ_ _ _ _ _ _=>(by have:=Qq.nd;exists (cL (Qn T) T.Pd ?_),(bM (aQ T) (adL T) (akn T) (by decide) T.adD.b aG ?_ ?_),(sW sX (Be T) ?_ ?_),(cE T.DM),(cE T.Bd),(aR (aQ T) (Gj T) (Qo T) (by decide) T.Pe.b aG ?_),(bM (aQ T) (adM T) (akr T) (by decide) T.adE.b aG ?_ ?_),(cE T.KR),(bM (aQ T) (adN T) (akt T) (by decide) T.adF.b aG ?_ ?_),(cE T.KS))
abbrev Zr:List Str:=["self","entry","going","ahead","out"]
theorem Qs:au Zr ["self","entry"] (aj XW):=fV
def IV:Fn:=dM Zr (ao (br 2 (aO "Match" "going" 1 jq (aa 0) ak))
   (ao (br 3 (dm (af (ai cY (bN iB (af (bw ["Match"] "played" (aa 0)) ak)) (mC (.int 1))) (af (bw ["Innings"] "overs" (aa 2)) (af (bw ["Innings"] "balls" (aa 2)) (af (bw ["Innings"] "facing" (aa 2)) (af (bw ["Innings"] "other" (aa 2)) (af (bw ["Innings"] "bowler" (aa 2)) ak))))))))
   (ao (br 4 (aO "Innings" "play" 3 IU (aa 2) (af (bw ["Match"] "rules" (aa 0)) (af (aa 1) ak))))
   (fB (xN LS CA (bw ["Match"] "balls_told" (aa 0)) (af (ai fF (aa 3) (dm (af (aa 1) (af (aa 4) ak)))) ak))))))
theorem aec (T:Txt K mg a):aP P w K mg base eO 5 a.zw a.vU ["self","entry"] (dW K (aF a) 2 IV):=
 aU T.Pg.F Qs λ_ _ _ _ _ _=>(by have:=Qs.nd;exists (aR (aA T) (gi T) (iP T) (by decide) T.jP.b aG ?_),(cF jI T.jO zaS ?_),(aB (jY T) ?_),(aB (wM T) ?_),(aB (rm T) ?_),(aB (iO T) ?_),(aB (nv T) ?_),(aB (lN T) ?_),(bM (aQ T) (Vy T) (aeb T) (by decide) T.Pf.b aG ?_ ?_),(aB (rq T) ?_),(qW zbo zbP zbQ oU mZ ?_ ?_),(aB (Gg T) ?_))
abbrev aku:List Str:=["self","name"]
theorem Zs:au aku ["self","name"] (aj ajW):=fV
def VO:Fn:=dM aku (cH (mB (ai (cC false) (bw ["Innings"] "facing" (aa 0)) (mC (.str ""))))
   (cg ["Innings"] "facing" (aa 0) (aa 1))
   (cg ["Innings"] "other" (aa 0) (aa 1)))
theorem akv (T:Txt K mg a):aP P w K mg base eO 2 a.KO a.DG ["self","name"] (dW K (aF a) 2 VO):=
 aU T.adG.F Zs λ_ _ _ _ _ _=>(by have:=Zs.nd;exists (aB (iO T) ?_),(aX (iO T) ?_ ?_),(aX (nv T) ?_ ?_))
abbrev akw:List Str:=["self","name"]
theorem Zt:au akw ["self","name"] (aj ajX):=fV
def VP:Fn:=dM akw (ao (cg ["Innings"] "bowler" (aa 0) (aa 1))
   (oE (bw ["Innings"] "spells" (aa 0)) (aa 1) (ai fF (HQ (bw ["Innings"] "spells" (aa 0)) (aa 1) (mC (.int 0))) (mC (.int 1)))))
theorem akx (T:Txt K mg a):aP P w K mg base eO 2 a.KP a.DH ["self","name"] (dW K (aF a) 2 VP):=
 aU T.adH.F Zt λ_ _ _ _ _ _=>(by have:=Zt.nd;exists (aX (lN T) ?_ ?_),(AE ?_ ?_ ?_),(aB (qp T) ?_),(HS ?_ ?_ ?_))
abbrev Zu:List Str:=["players","old","new"]
theorem Qt:au Zu ["players","old","new"] (aj OZ):=fV
def IW:Fn:=dM Zu (aE (fD (qX iL (aa 0)) [2,1] 1 (bB 2) iV (BG (mB (ai (cC false) (aa 2) (aa 1))) (aa 0) (aa 2))))
theorem aed (T:Txt K mg a):aP P w K mg base eO 2 a.De a.vV ["players","old","new"] (dW K (aF a) 3 IW):=
 aU T.Yz.F Qt λ_ _ _ _ _ _=>(by have:=Qt.nd;exists (gf (F:=["new","old"]) (T:=["name"]) (fr:=[2,1]) (EH OZ (by decide +kernel)) ?_ (λ_ _ _ _ _=>?_) (λ_ _ _ _ _=>?_) (λ_ _ _ _ _=>?_)),(eB 2 (show (["new","old","name"]:List Str).Nodup by decide +kernel)))
abbrev Zv:List Str:=["told","old","new"]
theorem Qu:au Zv ["told","old","new"] (aj O0):=fV
def DY:Fn:=dM Zv (aE (bN A5 (af (fD (qX iD (aa 0)) [2,0,1] 1 (bB 3) iV (dm (af (BG (mB (ai (cC false) (aa 3) (aa 2))) (aa 0) (aa 3)) (af (ai uR (aa 1) (aa 3)) ak)))) ak)))
theorem aee (T:Txt K mg a):aP P w K mg base eO 2 a.Df a.vW ["told","old","new"] (dW K (aF a) 3 DY):=
 aU T.YA.F Qu λ_ _ _ _ _ _=>(by have:=Qu.nd;exists (c_ Vf T.adB PyProof.Rows.boot_dict ?_),(gf (F:=["new","told","old"]) (T:=["name"]) (fr:=[2,0,1]) (EH O0 (by decide +kernel)) ?_ (λ_ _ _ _ _=>?_) (λ_ _ _ _ _=>?_) (λ_ _ _ _ _=>?_)),(Ie ?_),(eB 3 (show (["new","told","old","name"]:List Str).Nodup by decide +kernel)),(OD ?_ ?_))
abbrev Zw:List Str:=["self","old","new"]
theorem Qv:au Zw ["self","old","new"] (aj XX):=fV
def IX:Fn:=dM Zw (ao (cg ["Innings"] "outs" (aa 0) (dR 3 DY (af (bw ["Innings"] "outs" (aa 0)) (af (aa 1) (af (aa 2) ak)))))
   (ao (cg ["Innings"] "spells" (aa 0) (dR 3 DY (af (bw ["Innings"] "spells" (aa 0)) (af (aa 1) (af (aa 2) ak)))))
   (cH (mB (ai (cC false) (bw ["Innings"] "ahead" (aa 0)) (aa 1)))
   (cg ["Innings"] "ahead" (aa 0) (aa 2))
   aD)))
theorem aef (T:Txt K mg a):aP P w K mg base eO 3 a.zx a.vX ["self","old","new"] (dW K (aF a) 3 IX):=
 aU T.Ph.F Qv λ_ _ _ _ _ _=>(by have:=Qv.nd;exists (aX (nN T) ?_ ?_),(cL (aee T) T.YA ?_),(aB (nN T) ?_),(aX (qp T) ?_ ?_),(aB (qp T) ?_),(aB (wL T) ?_),(aX (wL T) ?_ ?_))
abbrev Zx:List Str:=["self","old","new","going"]
theorem Qw:au Zx ["self","old","new"] (aj O1):=fV
def IY:Fn:=dM Zx (ao (fB (xN LS CA (bw ["Match"] "known" (aa 0)) (af (aa 2) ak)))
   (ao (cg ["Match"] "sides" (aa 0) (fD (qX iL (bw ["Match"] "sides" (aa 0))) [1,2] 2 (kH 2 (dw (bB 2) (dw (bB 3) pU))) iV (dm (af (aa 2) (af (dR 3 IW (af (aa 3) (af (aa 0) (af (aa 1) ak)))) ak)))))
   (ao (br 3 (aO "Match" "going" 1 jq (aa 0) ak))
   (cH (mB (ai (iY true) (aa 3) (mC .bq)))
   (fB (aO "Innings" "rename" 3 IX (aa 3) (af (aa 1) (af (aa 2) ak))))
   aD))))
theorem aeg (T:Txt K mg a):aP P w K mg base eO 4 a.zy a.vY ["self","old","new"] (dW K (aF a) 3 IY):=
 aU T.Pj.F Qw λ_ _ _ _ _ _=>(by have:=Qw.nd;exists (qW zbo zbP zbQ oU mZ ?_ ?_),(aB (Ge T) ?_),(aX (jo T) ?_ ?_),(gf (F:=["old","new"]) (T:=["name","players"]) (fr:=[1,2]) (EH O1 (by decide +kernel)) ?_ (λ_ _ _ _ _=>?_) (λ_ _ _ _ _=>?_) (λ_ _ _ _ _=>?_)),(aB (jo T) ?_),(m_ (n:=2) ?_),(eB 2 (show (["old","new","name","players"]:List Str).Nodup by decide +kernel)),(eB 3 (show (["old","new","name","players"]:List Str).Nodup by decide +kernel)),(cL (aed T) T.Yz ?_),(aR (aA T) (gi T) (iP T) (by decide) T.jP.b aG ?_),(bM (aQ T) (VA T) (aef T) (by decide) T.Ph.b aG ?_ ?_))
abbrev Zy:List Str:=["self","going"]
theorem Qx:au Zy ["self"] (aj XY):=fV
def IZ:Fn:=dM Zy (ao (cg ["Match"] "closed" (aa 0) (mC (.bl true)))
   (ao (br 1 (aO "Match" "going" 1 jq (aa 0) ak))
   (cH (mB (ai (iY true) (aa 1) (mC .bq)))
   (cg ["Innings"] "ending" (aa 1) (mC (.str "closed")))
   aD)))
theorem aeh (T:Txt K mg a):aP P w K mg base eO 3 a.zz a.vZ ["self"] (dW K (aF a) 1 IZ):=
 aU T.Pk.F Qx λ_ _ _ _ _ _=>(by have:=Qx.nd;exists (aX (Gf T) ?_ ?_),(aR (aA T) (gi T) (iP T) (by decide) T.jP.b aG ?_),(aX (wN T) ?_ ?_))
abbrev Zz:List Str:=["self","entry","going","word"]
theorem Qy:au Zz ["self","entry"] (aj XZ):=fV
def wQ:Fn:=dM Zz (ao (br 2 (aO "Match" "going" 1 jq (aa 0) ak))
   (ao (br 3 (ai bu (aa 1) (mC (.int 0))))
   (cH (mB (ai (cC false) (aa 3) (mC (.str "start"))))
   (fB (aO "Match" "begin" 2 IS (aa 0) (af (aa 1) ak)))
   (cH (mB (ai (cC false) (aa 3) (mC (.str "ball"))))
   (fB (aO "Match" "play_ball" 2 IV (aa 0) (af (aa 1) ak)))
   (cH (mB (ai (cC false) (aa 3) (mC (.str "in"))))
   (fB (aO "Innings" "come_in" 2 VO (aa 2) (af (ai bu (aa 1) (mC (.int 1))) ak)))
   (cH (mB (ai (cC false) (aa 3) (mC (.str "bowl"))))
   (fB (aO "Innings" "bowl_next" 2 VP (aa 2) (af (ai bu (aa 1) (mC (.int 1))) ak)))
   (cH (mB (ai (cC false) (aa 3) (mC (.str "hurt"))))
   (fB (aO "Innings" "leave" 2 Qp (aa 2) (af (ai bu (aa 1) (mC (.int 1))) ak)))
   (cH (mB (ai (cC false) (aa 3) (mC (.str "swap"))))
   (fB (aO "Match" "swap_player" 3 IY (aa 0) (af (ai bu (aa 1) (mC (.int 1))) (af (ai bu (aa 1) (mC (.int 2))) ak))))
   (cH (mB (ai (cC false) (aa 3) (mC (.str "declare"))))
   (cg ["Innings"] "ending" (aa 2) (mC (.str "declared")))
   (cH (mB (ai (cC false) (aa 3) (mC (.str "follow"))))
   (cg ["Match"] "followed" (aa 0) (mC (.bl true)))
   (fB (aO "Match" "close" 1 IZ (aa 0) ak))))))))))))
theorem aei (T:Txt K mg a):aP P w K mg base eO 8 a.zA a.v_ ["self","entry"] (dW K (aF a) 2 wQ):=
 aU T.Pn.F Qy λ_ _ _ _ _ _=>(by have:=Qy.nd;exists (aR (aA T) (gi T) (iP T) (by decide) T.jP.b aG ?_),(bM (aA T) (Vx T) (ad9 T) (by decide) T.Pc.b aG ?_ ?_),(bM (aA T) (Vz T) (aec T) (by decide) T.Pg.b aG ?_ ?_),(bM (aQ T) (adO T) (akv T) (by decide) T.adG.b aG ?_ ?_),(bM (aQ T) (adP T) (akx T) (by decide) T.adH.b aG ?_ ?_),(bM (aQ T) (Pz T) (Zn T) (by decide) T.Vq.b aG ?_ ?_),(bM (aA T) (VB T) (aeg T) (by decide) T.Pj.b aG ?_ ?_),(aX (wN T) ?_ ?_),(aX (Bf T) ?_ ?_),(aR (aA T) (VC T) (aeh T) (by decide) T.Pk.b aG ?_))
abbrev aky:List Str:=["self","players"]
theorem ZA:au aky ["self","players"] (aj adz):=fV
def VQ:Fn:=dM aky (aE (bN Uj (af (fD (qX iL (aa 1)) [0] 1 (bB 1) iV (lz (ai (Cv true) (aa 1) (bw ["Innings"] "outs" (aa 0))) (Kc (aO "Innings" "stands" 2 qt (aa 0) (af (aa 1) ak))))) ak)))
theorem akz (T:Txt K mg a):aP P w K mg base eO 3 a.KQ a.DI ["self","players"] (dW K (aF a) 2 VQ):=
 aU T.adI.F ZA λ_ _ _ _ _ _=>(by have:=ZA.nd;exists (cF aiz T.ajY PyProof.Rows.boot_any ?_),(gf (F:=["self"]) (T:=["name"]) (fr:=[0]) (EH adz (by decide +kernel)) ?_ (λ_ _ _ _ _=>?_) (λ_ _ _ _ _=>?_) (λ_ _ _ _ _=>?_)),(eB 1 (show (["self","name"]:List Str).Nodup by decide +kernel)),(Ug ?_ ?_),(aB (nN T) ?_),(Fy ?_),(bM (aQ T) (nP T) (rA T) (by decide) T.r_.b aG ?_ ?_))
abbrev ZC:List Str:=["self","going"]
theorem Qz:au ZC ["self","going"] (aj X0):=fV
def I0:Fn:=dM ZC (ao (cH (nX (mB (ai (cC false) (bN iB (af (bw ["Match"] "played" (aa 0)) ak)) (aO "Match" "most_innings" 1 wO (aa 0) ak))) (mB (ai gGt (aO "Match" "lead_of" 2 zK (aa 0) (af (bw ["Innings"] "side" (aa 1)) ak)) (mC (.int 0)))))
   (aE (mC (.str "won")))
   aD)
   (ao (cH (nX (mB (aO "Innings" "has_gap" 1 K0 (aa 1) ak)) (xK (mB (aO "Innings" "has_left" 2 VQ (aa 1) (af (ai bu (ai bu (bw ["Match"] "sides" (aa 0)) (bw ["Innings"] "side" (aa 1))) (mC (.int 1))) ak)))))
   (aE (mC (.str "out")))
   aD)
   (aE (BG (mB (mW W7 gLe (mC (.int 0)) (ai bu (bw ["Match"] "rules" (aa 0)) (mC (.int 1))) (bw ["Innings"] "overs" (aa 1)))) (mC (.str "overs")) (mC (.str ""))))))
theorem aej (T:Txt K mg a):aP P w K mg base eO 4 a.zB a.wc ["self","going"] (dW K (aF a) 2 I0):=
 aU T.Po.F Qz λ_ _ _ _ _ _=>(by have:=Qz.nd;exists (cF jI T.jO zaS ?_),(aB (jY T) ?_),(aR (aA T) (Bg T) (Gk T) (by decide) T.DN.b aG ?_),(bM (aA T) (Bh T) (Gm T) (by decide) T.DO.b aG ?_ ?_),(aB (nu T) ?_),(aR (aQ T) (Gi T) (Qa T) (by decide) T.Pa.b aG ?_),(bM (aQ T) (adQ T) (akz T) (by decide) T.adI.b aG ?_ ?_),(aB (jo T) ?_),(Cp NK NL ?_ ?_ ?_),(aB (rq T) ?_),(cE T.F_),(aB (wM T) ?_))
abbrev ZD:List Str:=["self","entry","rule","going"]
theorem QA:au ZD ["self","entry"] (aj X3):=fV
def sj:Fn:=fnX ZD (ao (br 2 (aO "Match" "refusal" 2 sf (aa 0) (af (aa 1) ak)))
   (ao (cH (mB (ai (iY true) (aa 2) (mC .bq)))
   (AQ "NotLet" 3 (gT2 "rule" "number") [.int 0] (af (fJ [(mC (.str "the rules don't let this entry: ")),(acq (aa 2))] Str.empty) (af (aa 2) ak)))
   aD)
   (ao (fB (aO "Match" "do" 2 wQ (aa 0) (af (aa 1) ak)))
   (ao (br 3 (aO "Match" "going" 1 jq (aa 0) ak))
   (cH (mB (ai (iY true) (aa 3) (mC .bq)))
   (cg ["Innings"] "ending" (aa 3) (aO "Match" "ending_due" 2 I0 (aa 0) (af (aa 3) ak)))
   aD)))))
theorem aek (T:Txt K mg a):aP P w K mg base (xA P w) 9 a.zC a.we ["self","entry"] (dW K (aF a) 2 sj):=
 acE T.Pp.F QA λ_ _ _ _ _ _=>(by have:=QA.nd;exists (bM (aA T) (Vw T) (ad8 T) (by decide) T.Pb.b aG ?_ ?_),(N9 (c:= "NotLet") (n:=3) (g:=gE2 "rule" "number") (gT:=gT2 "rule" "number") (HZ:=[.int 0]) (nF:=[.int 0]) (zJ T) (o5 T) (by decide) (Gh T) T.zH (.cons ⟨_,rfl⟩ .nil) (λ_=>.cons dZ .nil) gR2 ?_),(UE ?_),(UD ?_ ?_),(acr ?_),acs,(bM (aA T) (VD T) (aei T) (by decide) T.Pn.b aG ?_ ?_),(aR (aA T) (gi T) (iP T) (by decide) T.jP.b aG ?_),(aX (wN T) ?_ ?_),(bM (aA T) (VE T) (aej T) (by decide) T.Po.b aG ?_ ?_))
abbrev ZE:List Str:=["self","going","who"]
theorem QB:au ZE ["self"] (aj X4):=fV
def I_:Fn:=rS (dM ZE (ao (br 1 (aO "Match" "going" 1 jq (aa 0) ak))
   (ao (cH (mB (ai (iY false) (aa 1) (mC .bq)))
   (aE (mC .bq))
   aD)
   (ao (br 2 (dm (af (ai bu (ai bu (bw ["Match"] "sides" (aa 0)) (bw ["Innings"] "side" (aa 1))) (mC (.int 0))) (af (bw ["Innings"] "facing" (aa 1)) (af (bw ["Innings"] "other" (aa 1)) (af (bw ["Innings"] "bowler" (aa 1)) ak))))))
   (aE (ai fF (aa 2) (dm (af (bw ["Innings"] "total" (aa 1)) (af (bw ["Innings"] "wickets" (aa 1)) (af (bw ["Innings"] "overs" (aa 1)) (af (bw ["Innings"] "balls" (aa 1)) ak)))))))))))
theorem ael (T:Txt K mg a):aP P w K mg base eO 3 a.zD a.wg ["self"] (dW K (aF a) 1 I_):=
 aP.pure (aU T.Pq.F QB λ_ _ _ _ _ _=>(by have:=QB.nd;exists (aR (aA T) (gi T) (iP T) (by decide) T.jP.b aG ?_),(aB (jo T) ?_),(aB (nu T) ?_),(aB (iO T) ?_),(aB (nv T) ?_),(aB (lN T) ?_),(aB (Be T) ?_),(aB (Gd T) ?_),(aB (wM T) ?_),(aB (rm T) ?_)))
abbrev ZF:List Str:=["self"]
theorem QC:au ZF ["self"] (aj O2):=fV
def DZ:Fn:=dM ZF (aE (fD (qX iL (bw ["Match"] "sides" (aa 0))) [] 2 (kH 2 (dw (bB 0) (dw (bB 1) pU))) iV (dm (af (aa 0) (af (bN pT (af (aa 1) ak)) ak)))))
theorem QD (T:Txt K mg a):aP P w K mg base eO 2 a.zE a.wj ["self"] (dW K (aF a) 1 DZ):=
 aU T.Ip.F QC λ_ _ _ _ _ _=>(by have:=QC.nd;exists (gf (F:=[]) (T:=["name","players"]) (fr:=[]) (EH O2 (by decide +kernel)) ?_ (λ_ _ _ _ _=>?_) (λ_ _ _ _ _=>?_) (λ_ _ _ _ _=>?_)),(aB (jo T) ?_),(m_ (n:=2) ?_),(eB 0 (show (["name","players"]:List Str).Nodup by decide +kernel)),(eB 1 (show (["name","players"]:List Str).Nodup by decide +kernel)),(c_ qV T.lM zaR ?_))
abbrev ZG:List Str:=["self","side"]
theorem QE:au ZG ["self"] (aj X5):=fV
def zL:Fn:=dM ZG (ao (br 1 (aO "Match" "next_side" 1 DU (aa 0) ak))
   (aE (BG (mB (ai (iY false) (aa 1) (mC .bq))) (mC (.str "")) (ai bu (ai bu (bw ["Match"] "sides" (aa 0)) (aa 1)) (mC (.int 0))))))
theorem aem (T:Txt K mg a):aP P w K mg base eO 6 a.zF a.wm ["self"] (dW K (aF a) 1 zL):=
 aU T.Pr.F QE λ_ _ _ _ _ _=>(by have:=QE.nd;exists (aR (aA T) (Ir T) (P1 T) (by decide) T.Im.b aG ?_),(aB (jo T) ?_))
abbrev ZH:List Str:=["_law_draw","_law_match","_law_players","_law_at","_law_one","_law_other","_law_k"]
theorem Gp:au ZH ["_law_draw","_law_match"] (aj X6):=fV
def Ja:Fn:=dM ZH (ao (br 2 (aO "Match" "players" 1 DZ (aa 1) ak))
   (ao (cH (mB (ai (cC false) (dR 2 bL (af (aa 0) (af (mC (.int 4)) ak))) (mC (.int 0))))
   (aE (dm (af (mC (.str "follow")) ak)))
   aD)
   (ao (br 3 (dR 2 bL (af (aa 0) (af (mC (.int 2)) ak))))
   (ao (cH (mB (ai (cC true) (aO "Match" "turn" 1 zL (aa 1) ak) (mC (.str ""))))
   (br 3 (bN xM (af (ai (cC false) (aO "Match" "turn" 1 zL (aa 1) ak) (ai bu (ai bu (aa 2) (mC (.int 1))) (mC (.int 0)))) ak)))
   aD)
   (ao (ach 4 5 (af (ai bu (ai bu (aa 2) (aa 3)) (mC (.int 1))) (af (ai bu (ai bu (aa 2) (ai cY (mC (.int 1)) (aa 3))) (mC (.int 1))) ak)))
   (ao (br 6 (dR 2 bL (af (aa 0) (af (bN iB (af (aa 4) ak)) ak))))
   (aE (dm (af (mC (.str "start")) (af (ai bu (ai bu (aa 2) (aa 3)) (mC (.int 0))) (af (ai bu (aa 4) (aa 6)) (af (ai bu (aa 4) (ai qP (ai fF (aa 6) (mC (.int 1))) (bN iB (af (aa 4) ak)))) (af (ai bu (aa 5) (dR 2 bL (af (aa 0) (af (bN iB (af (aa 5) ak)) ak)))) ak)))))))))))))
theorem aen (T:Txt K mg a):aP P w K mg base eO 7 a.Dg a.wo ["_law_draw","_law_match"] (dW K (aF a) 2 Ja):=
 aU T.YB.F Gp λ_ _ _ _ _ _=>(by have:=Gp.nd;exists (aR (aA T) (Iv T) (QD T) (by decide) T.Ip.b aG ?_),(cL (o6 T) T.r9 ?_),(aR (aA T) (VH T) (aem T) (by decide) T.Pr.b aG ?_),(c_ HF T.DJ zcg ?_),(aci (i:=4) (j:=5) Gp.nd rfl rfl (by decide) rfl rfl ?_ rfl),(cF jI T.jO zaS ?_))
abbrev ZI:List Str:=["_law_draw","_law_two","_law_kind","_law_runs","_law_way","_law_rope"]
theorem QF:au ZI ["_law_draw","_law_two"] (aj X7):=fV
def Jb:Fn:=dM ZI (ao (br 2 (ai bu (kD (af (mC (.str "bat")) (af (mC (.str "bat")) (af (mC (.str "bat")) (af (mC (.str "bye")) (af (mC (.str "leg")) (af (mC (.str "wide")) (af (mC (.str "no")) (af (mC (.str "nobye")) ak))))))))) (dR 2 bL (af (aa 0) (af (mC (.int 8)) ak)))))
   (ao (br 3 (ai bu (kD (af (mC (.int 0)) (af (mC (.int 0)) (af (mC (.int 1)) (af (mC (.int 1)) (af (mC (.int 2)) (af (mC (.int 3)) (af (mC (.int 4)) (af (mC (.int 4)) (af (mC (.int 6)) (af (mC (.int 6)) (af (mC (.int 5)) (af (mC (.int 9)) ak))))))))))))) (dR 2 bL (af (aa 0) (af (mC (.int 12)) ak)))))
   (ao (br 4 (dR 2 bL (af (aa 0) (af (mC (.int 9)) ak))))
   (ao (cH (mB (ai (cC false) (aa 4) (mC (.int 0))))
   (aE (dm (af (mC (.str "ball")) (af (aa 2) (af (aa 3) (af (mC (.bl false)) (af (mC (.str "run")) (af (ai bu (aa 1) (dR 2 bL (af (aa 0) (af (mC (.int 2)) ak)))) (af (ai bu (kD (af (mC (.str "strike")) (af (mC (.str "other")) ak))) (dR 2 bL (af (aa 0) (af (mC (.int 2)) ak)))) ak)))))))))
   aD)
   (ao (cH (nX (mB (ai (cC false) (aa 4) (mC (.int 1)))) (mB (ai (cC false) (aa 2) (mC (.str "bat")))))
   (aE (dm (af (mC (.str "ball")) (af (aa 2) (af (mC (.int 0)) (af (mC (.bl false)) (af (ai bu (kD (af (mC (.str "bowled")) (af (mC (.str "caught")) (af (mC (.str "before")) (af (mC (.str "stumped")) (af (mC (.str "hit")) ak)))))) (dR 2 bL (af (aa 0) (af (mC (.int 5)) ak)))) (af (mC (.str "")) (af (mC (.str "")) ak)))))))))
   aD)
   (ao (cH (nX (mB (ai (cC false) (aa 4) (mC (.int 1)))) (mB (ai (cC false) (aa 2) (mC (.str "wide")))))
   (aE (dm (af (mC (.str "ball")) (af (aa 2) (af (mC (.int 0)) (af (mC (.bl false)) (af (ai bu (kD (af (mC (.str "stumped")) (af (mC (.str "hit")) ak))) (dR 2 bL (af (aa 0) (af (mC (.int 2)) ak)))) (af (mC (.str "")) (af (mC (.str "")) ak)))))))))
   aD)
   (ao (br 5 (W6 (ai (cC false) (aa 3) (mC (.int 4))) (lz (ai (cC false) (aa 3) (mC (.int 6))) (ai (w_ false) (aa 2) (dm (af (mC (.str "bat")) (af (mC (.str "no")) ak)))))))
   (aE (dm (af (mC (.str "ball")) (af (aa 2) (af (aa 3) (af (lz (aa 5) (ai gGt (dR 2 bL (af (aa 0) (af (mC (.int 4)) ak))) (mC (.int 0)))) (af (mC (.str "")) (af (mC (.str "")) (af (mC (.str "")) ak))))))))))))))))
theorem aeo (T:Txt K mg a):aP P w K mg base eO 3 a.Dh a.wu ["_law_draw","_law_two"] (dW K (aF a) 2 Jb):=
 aU T.YC.F QF λ_ _ _ _ _ _=>(by have:=QF.nd;exists (cL (o6 T) T.r9 ?_),(iK AD ?_ ?_ (by with_unfolding_all rfl)))
abbrev ZJ:List Str:=["_law_draw","_law_match","_law_state","_law_players","_law_at","_law_what","_law_old"]
theorem QG:au ZJ ["_law_draw","_law_match"] (aj X8):=fV
def D0:Fn:=dM ZJ (ao (br 2 (aO "Match" "state" 1 I_ (aa 1) ak))
   (ao (cH (mB (ai (iY false) (aa 2) (mC .bq)))
   (aE (dR 2 Ja (af (aa 0) (af (aa 1) ak))))
   aD)
   (ao (br 3 (aO "Match" "players" 1 DZ (aa 1) ak))
   (ao (br 4 (bN xM (af (ai (cC false) (ai bu (aa 2) (mC (.int 0))) (ai bu (ai bu (aa 3) (mC (.int 1))) (mC (.int 0)))) ak)))
   (ao (cH (Fw (mB (ai (cC false) (ai bu (aa 2) (mC (.int 1))) (mC (.str "")))) (mB (ai (cC false) (ai bu (aa 2) (mC (.int 2))) (mC (.str "")))))
   (aE (dm (af (mC (.str "in")) (af (ai bu (ai bu (ai bu (aa 3) (aa 4)) (mC (.int 1))) (dR 2 bL (af (aa 0) (af (bN iB (af (ai bu (ai bu (aa 3) (aa 4)) (mC (.int 1))) ak)) ak)))) ak))))
   aD)
   (ao (cH (mB (ai (cC false) (ai bu (aa 2) (mC (.int 3))) (mC (.str ""))))
   (aE (dm (af (mC (.str "bowl")) (af (ai bu (ai bu (ai bu (aa 3) (ai cY (mC (.int 1)) (aa 4))) (mC (.int 1))) (dR 2 bL (af (aa 0) (af (bN iB (af (ai bu (ai bu (aa 3) (aa 4)) (mC (.int 1))) ak)) ak)))) ak))))
   aD)
   (ao (br 5 (dR 2 bL (af (aa 0) (af (mC (.int 24)) ak))))
   (ao (cH (mB (ai (cC false) (aa 5) (mC (.int 0))))
   (aE (dm (af (mC (.str "hurt")) (af (ai bu (aa 2) (ai fF (mC (.int 1)) (dR 2 bL (af (aa 0) (af (mC (.int 2)) ak))))) ak))))
   aD)
   (ao (cH (mB (ai (cC false) (aa 5) (mC (.int 1))))
   (ao (br 6 (ai bu (ai bu (ai bu (aa 3) (dR 2 bL (af (aa 0) (af (mC (.int 2)) ak)))) (mC (.int 1))) (dR 2 bL (af (aa 0) (af (bN iB (af (ai bu (ai bu (aa 3) (mC (.int 0))) (mC (.int 1))) ak)) ak)))))
   (aE (dm (af (mC (.str "swap")) (af (aa 6) (af (ai fF (mC (.str "wx")) (ai bu (mC (.str "abcdefghij")) (dR 2 bL (af (aa 0) (af (mC (.int 10)) ak))))) ak))))))
   aD)
   (ao (cH (nX (mB (ai (cC false) (aa 5) (mC (.int 2)))) (mB (ai (cC false) (dR 2 bL (af (aa 0) (af (mC (.int 3)) ak))) (mC (.int 0)))))
   (aE (dm (af (mC (.str "declare")) ak)))
   aD)
   (aE (dR 2 Jb (af (aa 0) (af (kD (af (ai bu (aa 2) (mC (.int 1))) (af (ai bu (aa 2) (mC (.int 2))) ak))) ak))))))))))))))
theorem aep (T:Txt K mg a):aP P w K mg base eO 8 a.Di a.wz ["_law_draw","_law_match"] (dW K (aF a) 2 D0):=
 aU T.YD.F QG λ_ _ _ _ _ _=>(by have:=QG.nd;exists (aR (aA T) (VG T) (ael T) (by decide) T.Pq.b aG ?_),(cL (aen T) T.YB ?_),(aR (aA T) (Iv T) (QD T) (by decide) T.Ip.b aG ?_),(c_ HF T.DJ zcg ?_),(cL (o6 T) T.r9 ?_),(cF jI T.jO zaS ?_),(cL (aeo T) T.YC ?_))
abbrev ZK:List Str:=["_law_draw","_law_rules_here","_law_match","_law_k"]
theorem Gq:au ZK ["_law_draw"] (aj X_):=fV
def Jc:Fn:=dM ZK (ao (br 1 (dR 1 Iw (af (aa 0) ak)))
   (ao (br 2 (yO "Match" 3 Iz (af (aa 1) (af (dR 2 IA (af (aa 0) (af (ai bu (aa 1) (mC (.int 5))) ak))) ak))))
   (ao (xP (yN (af (ai bu (kD (af (mC (.int 12)) (af (mC (.int 30)) (af (mC (.int 60)) (af (mC (.int 90)) ak))))) (dR 2 bL (af (aa 0) (af (mC (.int 4)) ak)))) ak)) (bB 3)
   (H_ "Match" "tell" 2 sj (aa 2) (af (dR 2 D0 (af (aa 0) (af (aa 2) ak))) ak) ["NotLet"] none
   NW))
   (aE (kD (af (aa 1) (af (aa 2) ak)))))))
theorem aeq (T:Txt K mg a):aP P w K mg base eO 10 a.Dl a.wA ["_law_draw"] (dW K (aF a) 1 Jc):=
 aU T.YE.F Gq λ_ _ _ _ _ _=>(by have:=Gq.nd;exists (cL (adS T) T.Yn ?_),(HL (c:= "Match") (Px T) (adT T) (by decide) (KY T) T.Yo.b aG ?_),(cL (adU T) T.Yp ?_),(oV zch ?_ ?_ ?_),(AH T.Ba ?_),(cL (o6 T) T.r9 ?_),(eB 3 Gq.nd),(Kp (c:= "Match") (T.gz.M.anK) (KZ T) (Py T) (aA T) (VF T) (aek T) (by decide) T.Pp.b ?_ ?_ (λ_=>?_)),(cL (aep T) T.YD ?_),CB)
abbrev ZL:List Str:=["_law_draw","_law_log","_law_first"]
theorem QH:au ZL ["_law_draw","_law_log"] (aj Yb):=fV
def Jd:Fn:=dM ZL (ao (cH (mB (ai (cC false) (dR 2 bL (af (aa 0) (af (mC (.int 2)) ak))) (mC (.int 0))))
   (aE (bN pT (af (aa 1) ak)))
   aD)
   (ao (br 2 (dR 2 bL (af (aa 0) (af (ai fF (bN iB (af (aa 1) ak)) (mC (.int 1))) ak))))
   (aE (mSl gSl (aa 1) (HC (aa 2)) (HC (ai fF (aa 2) (dR 2 bL (af (aa 0) (af (ai fF (ai cY (bN iB (af (aa 1) ak)) (aa 2)) (mC (.int 1))) ak)))))))))
theorem aer (T:Txt K mg a):aP P w K mg base eO 3 a.Dm a.wB ["_law_draw","_law_log"] (dW K (aF a) 2 Jd):=
 aU T.YF.F QH λ_ _ _ _ _ _=>(by have:=QH.nd;exists (cL (o6 T) T.r9 ?_),(c_ qV T.lM zaR ?_),(cF jI T.jO zaS ?_))
abbrev ZM:List Str:=["self"]
theorem QI:au ZM ["self"] (aj Yc):=fV
def Je:Fn:=rS (dM ZM (aE (bN pT (af (bw ["Match"] "balls_told" (aa 0)) ak))))
theorem aes (T:Txt K mg a):aP P w K mg base eO 2 a.zG a.wC ["self"] (dW K (aF a) 1 Je):=
 aP.pure (aU T.Pu.F QI λ_ _ _ _ _ _=>(by have:=QI.nd;exists (c_ qV T.lM zaR ?_),(aB (Gg T) ?_)))
abbrev ZN:List Str:=["_law_rules_here","_law_log","_law_due_here","_law_innings","_law_mine","_law_byes","_law_legs","_law_wides"]
theorem Bl:au ZN ["_law_rules_here","_law_log"] (aj yZ):=fV
def Jf:Fn:=dM ZN (ao (br 2 (rP ak))
   (ao (xP (qX iL (T8 nk (fD (qX iL (aa 1)) [] 1 (bB 0) iV (ai bu (aa 0) (mC (.int 0)))))) (bB 3)
   (ao (br 4 (fD (qX iL (aa 1)) [3] 1 (bB 1) (mB (ai (cC false) (ai bu (aa 1) (mC (.int 0))) (aa 0))) (ai bu (aa 1) (mC (.int 6)))))
   (ao (br 5 (bN Cz (af (fD (qX iL (aa 4)) [] 1 (bB 0) (mB (ai (w_ false) (ai bu (aa 0) (mC (.int 1))) (dm (af (mC (.str "bye")) (af (mC (.str "nobye")) ak))))) (ai bu (aa 0) (mC (.int 2)))) ak)))
   (ao (br 6 (bN Cz (af (fD (qX iL (aa 4)) [] 1 (bB 0) (mB (ai (cC false) (ai bu (aa 0) (mC (.int 1))) (mC (.str "leg")))) (ai bu (aa 0) (mC (.int 2)))) ak)))
   (ao (br 7 (bN Cz (af (fD (qX iL (aa 4)) [0] 1 (bB 1) (mB (ai (cC false) (ai bu (aa 1) (mC (.int 1))) (mC (.str "wide")))) (ai fF (ai bu (aa 0) (mC (.int 3))) (ai bu (aa 1) (mC (.int 2))))) ak)))
   (fB (xN LS CA (aa 2) (af (dm (af (aa 3) (af (aa 5) (af (aa 6) (af (aa 7) (af (ai sJ (ai bu (aa 0) (mC (.int 4))) (bN iB (af (fD (qX iL (aa 4)) [] 1 (bB 0) (mB (ai (w_ false) (ai bu (aa 0) (mC (.int 1))) (dm (af (mC (.str "no")) (af (mC (.str "nobye")) ak))))) (mC (.int 1))) ak))) ak)))))) ak))))))))
   (aE (aa 2))))
theorem aet (T:Txt K mg a):aP P w K mg base eO 2 a.Dn a.wD ["_law_rules_here","_law_log"] (dW K (aF a) 2 Jf):=
 aU T.YG.F Bl λ_ _ _ _ _ _=>(by have:=Bl.nd;exists (oV zch ?_ ?_ ?_),(F7 T.DK T.ajZ ?_),(gf (target:=.Name "_law_told" _) (F:=[]) (T:=["_law_told"]) (fr:=[]) (EH yZ (by decide +kernel)) ?_ (λ_ _ _ _ _=>?_) (λ_ _ _ _ _=>?_) (λ_ _ _ _ _=>?_)),(eB 0 (show (["_law_told"]:List Str).Nodup by decide +kernel)),(eB 3 Bl.nd),(AJ (target:=.Name "_law_told" _) (i0:=4) (F:=["_law_innings"]) (T:=["_law_told"]) (fr:=[3]) (EH yZ (by decide +kernel)) ?_ (λ_ _ _ _ _=>?_) (λ_ _ _ _ _=>?_) (λ_ _ _ _ _=>?_) Bl.nd rfl rfl rfl),(eB 1 (show (["_law_innings","_law_told"]:List Str).Nodup by decide +kernel)),(cF W_ T.Yk zfa ?_),(gf (target:=.Name "_law_entry_here" _) (F:=[]) (T:=["_law_entry_here"]) (fr:=[]) (EH yZ (by decide +kernel)) ?_ (λ_ _ _ _ _=>?_) (λ_ _ _ _ _=>?_) (λ_ _ _ _ _=>?_)),(eB 0 (show (["_law_entry_here"]:List Str).Nodup by decide +kernel)),(iM AD ?_ ?_ (by with_unfolding_all rfl)),(gf (target:=.Name "_law_entry_here" _) (F:=["_law_rules_here"]) (T:=["_law_entry_here"]) (fr:=[0]) (EH yZ (by decide +kernel)) ?_ (λ_ _ _ _ _=>?_) (λ_ _ _ _ _=>?_) (λ_ _ _ _ _=>?_)),(eB 1 (show (["_law_rules_here","_law_entry_here"]:List Str).Nodup by decide +kernel)),(qW zbo zbP zbQ oU mZ ?_ ?_),(cF jI T.jO zaS ?_))
abbrev ZO:List Str:=["entry"]
theorem QJ:au ZO ["entry"] (aj Yd):=fV
def Jg:Fn:=dM ZO (aE (ai (w_ false) (ai bu (aa 0) (mC (.int 1))) (dm (af (mC (.str "no")) (af (mC (.str "nobye")) ak)))))
theorem aeu (T:Txt K mg a):aP P w K mg base eO 2 a.Dp a.wF ["entry"] (dW K (aF a) 1 Jg):=
 aU T.YH.F QJ λ_ _ _ _ _ _=>(by have:=QJ.nd;exists (iK AD ?_ ?_ (by with_unfolding_all rfl)))
abbrev ZP:List Str:=["rules","entry","noball","rest"]
theorem QK:au ZP ["rules","entry"] (aj Ye):=fV
def Jh:Fn:=dM ZP (ao (br 2 (BG (mB (dR 1 Jg (af (aa 1) ak))) (ai bu (aa 0) (mC (.int 4))) (mC (.int 0))))
   (ao (br 3 (ai cY (ai bu (dR 2 DX (af (aa 0) (af (aa 1) ak))) (mC (.int 2))) (aa 2)))
   (ao (cH (mB (ai (cC false) (ai bu (aa 1) (mC (.int 1))) (mC (.str "leg"))))
   (aE (dm (af (mC (.int 0)) (af (aa 3) (af (mC (.int 0)) (af (mC (.int 0)) ak))))))
   aD)
   (ao (cH (mB (ai (cC false) (ai bu (aa 1) (mC (.int 1))) (mC (.str "wide"))))
   (aE (dm (af (mC (.int 0)) (af (mC (.int 0)) (af (aa 3) (af (mC (.int 0)) ak))))))
   aD)
   (aE (dm (af (aa 3) (af (mC (.int 0)) (af (mC (.int 0)) (af (aa 2) ak))))))))))
theorem aev (T:Txt K mg a):aP P w K mg base eO 4 a.Dq a.wG ["rules","entry"] (dW K (aF a) 2 Jh):=
 aU T.YI.F QK λ_ _ _ _ _ _=>(by have:=QK.nd;exists (cL (aeu T) T.YH ?_),(cE T.rZ),(cL (Qn T) T.Pd ?_),(cE T.Bb))
abbrev ZQ:List Str:=["one","two"]
theorem QL:au ZQ ["one","two"] (aj O3):=fV
def D_:Fn:=dM ZQ (aE (bN qU (af (fD (rW (af (aa 0) (af (aa 1) ak))) [] 2 (kH 2 (dw (bB 0) (dw (bB 1) pU))) iV (ai fF (aa 0) (aa 1))) ak)))
theorem aew (T:Txt K mg a):aP P w K mg base eO 2 a.Ds a.wH ["one","two"] (dW K (aF a) 2 D_):=
 aU T.YJ.F QL λ_ _ _ _ _ _=>(by have:=QL.nd;exists (c_ HE T.ql zbW ?_),(gf (F:=[]) (T:=["first","second"]) (fr:=[]) (EH O3 (by decide +kernel)) ?_ (λ_ _ _ _ _=>?_) (λ_ _ _ _ _=>?_) (λ_ _ _ _ _=>?_)),(Ib T.Yl ?_),(m_ (n:=2) ?_),(eB 0 (show (["first","second"]:List Str).Nodup by decide +kernel)),(eB 1 (show (["first","second"]:List Str).Nodup by decide +kernel)))
abbrev ZR:List Str:=["parts","sums","key","numbers"]
theorem Bm:au ZR ["parts"] (aj O4):=fV
def Ji:Fn:=dM ZR (ao (br 1 A1)
   (ao (xP (qX iL (aa 0)) (kH 2 (dw (bB 2) (dw (bB 3) pU)))
   (A2 (aa 1) (aa 2) (BG (mB (ai (A0 false) (aa 2) (aa 1))) (dR 2 D_ (af (ai uR (aa 1) (aa 2)) (af (aa 3) ak))) (aa 3))))
   (aE (FH (qX iD (aa 1)) [1] 1 (bB 1) iV (ai fF (aa 1) (ai uR (aa 0) (aa 1)))))))
theorem aex (T:Txt K mg a):aP P w K mg base eO 3 a.Dt a.wI ["parts"] (dW K (aF a) 1 Ji):=
 aU T.YK.F Bm λ_ _ _ _ _ _=>(by have:=Bm.nd;exists Ku,(oV zch ?_ ?_ ?_),(m_ (n:=2) ?_),(eB 2 Bm.nd),(eB 3 Bm.nd),(OF ?_ ?_ ?_),(ado ?_ ?_),(cL (aew T) T.YJ ?_),(OD ?_ ?_),(NZ (F:=["sums"]) (T:=["key"]) (fr:=[1]) (EH O4 (by decide +kernel)) ?_ (λ_ _ _ _ _=>?_) (λ_ _ _ _ _=>?_) (λ_ _ _ _ _=>?_)),(Ie ?_),(eB 1 (show (["sums","key"]:List Str).Nodup by decide +kernel)))
abbrev ZS:List Str:=["rules","log","parts","innings","over","ball","facing","other","bowler","entry","out"]
theorem jZ:au ZS ["rules","log"] (aj Yg):=fV
def Ea:Fn:=dM ZS (ao (br 2 (rP ak))
   (ao (xP (qX iL (aa 1)) (kH 8 (dw (bB 3) (dw (bB 4) (dw (bB 5) (dw (bB 6) (dw (bB 7) (dw (bB 8) (dw (bB 9) (dw (bB 10) pU)))))))))
   (fB (xN LS CA (aa 2) (af (dm (af (dm (af (aa 3) ak)) (af (dR 2 Jh (af (aa 0) (af (aa 9) ak))) ak))) ak))))
   (aE (bN qj (af (dR 1 Ji (af (aa 2) ak)) ak)))))
theorem aey (T:Txt K mg a):aP P w K mg base eO 5 a.Du a.wJ ["rules","log"] (dW K (aF a) 2 Ea):=
 aU T.YL.F jZ λ_ _ _ _ _ _=>(by have:=jZ.nd;exists (oV zch ?_ ?_ ?_),(m_ (n:=8) ?_),(eB 3 jZ.nd),(eB 4 jZ.nd),(eB 5 jZ.nd),(eB 6 jZ.nd),(eB 7 jZ.nd),(eB 8 jZ.nd),(eB 9 jZ.nd),(eB 10 jZ.nd),(qW zbo zbP zbQ oU mZ ?_ ?_),(cL (aev T) T.YI ?_),(cF OV T.DK qc ?_),(cL (aex T) T.YK ?_))
abbrev akA:List Str:=["_law_found","_law_due_here","_law_one","_law_two"]
theorem Bo:au akA ["_law_found","_law_due_here"] (aj Yh):=fV
def iW:Nat->Fn
 |0=>λ_ _=>.ay
 |n+1=>dM ["_law_found","_law_due_here","_law_one","_law_two"] (ao (cH (Fw (mB (jE "list" (aa 1))) (mB (jE "tuple" (aa 1))))
   (ao (cH (mB (ai (cC true) (jE "list" (aa 1)) (jE "list" (aa 0))))
   (aE (mC (.bl false)))
   aD)
   (ao (cH (mB (ai (cC true) (jE "tuple" (aa 1)) (jE "tuple" (aa 0))))
   (aE (mC (.bl false)))
   aD)
   (ao (cH (mB (ai (cC true) (bN iB (af (aa 0) ak)) (bN iB (af (aa 1) ak))))
   (aE (mC (.bl false)))
   aD)
   (ao (xP (rW (af (aa 0) (af (aa 1) ak))) (kH 2 (dw (bB 2) (dw (bB 3) pU)))
   (cH (xK (mB (dR 2 (iW n) (af (aa 2) (af (aa 3) ak)))))
   (aE (mC (.bl false)))
   aD))
   (aE (mC (.bl true)))))))
   aD)
   (ao (cH (mB (ai (iY false) (aa 1) (mC .bq)))
   (aE (ai (iY false) (aa 0) (mC .bq)))
   aD)
   (ao (cH (mB (jE "str" (aa 1)))
   (aE (lz (jE "str" (aa 0)) (ai (cC false) (aa 0) (aa 1))))
   aD)
   (aE (lz (jE "int" (aa 0)) (lz (Kc (jE "bool" (aa 0))) (ai (cC false) (aa 0) (aa 1))))))))
theorem QM (T:Txt K mg a):∀n,aP P w K mg base eO (1+n) a.Dv a.wK ["_law_found","_law_due_here"] (dW K (aF a) 2 (iW n))
 |0=>anE T.se.F Bo
 |n+1=>by
  have IH:=QM T n;have qe:iW (n+1)=dM ["_law_found","_law_due_here","_law_one","_law_two"] (ao (cH (Fw (mB (jE "list" (aa 1))) (mB (jE "tuple" (aa 1))))
   (ao (cH (mB (ai (cC true) (jE "list" (aa 1)) (jE "list" (aa 0))))
   (aE (mC (.bl false)))
   aD)
   (ao (cH (mB (ai (cC true) (jE "tuple" (aa 1)) (jE "tuple" (aa 0))))
   (aE (mC (.bl false)))
   aD)
   (ao (cH (mB (ai (cC true) (bN iB (af (aa 0) ak)) (bN iB (af (aa 1) ak))))
   (aE (mC (.bl false)))
   aD)
   (ao (xP (rW (af (aa 0) (af (aa 1) ak))) (kH 2 (dw (bB 2) (dw (bB 3) pU)))
   (cH (xK (mB (dR 2 (iW n) (af (aa 2) (af (aa 3) ak)))))
   (aE (mC (.bl false)))
   aD))
   (aE (mC (.bl true)))))))
   aD)
   (ao (cH (mB (ai (iY false) (aa 1) (mC .bq)))
   (aE (ai (iY false) (aa 0) (mC .bq)))
   aD)
   (ao (cH (mB (jE "str" (aa 1)))
   (aE (lz (jE "str" (aa 0)) (ai (cC false) (aa 0) (aa 1))))
   aD)
   (aE (lz (jE "int" (aa 0)) (lz (Kc (jE "bool" (aa 0))) (ai (cC false) (aa 0) (aa 1)))))))):=rfl
  rw[qe];exact aU (k:=1+n) T.se.F Bo λfG A outer s H E=>(jJ (rR (LM.t (W5 (uv (jV (u:= "list") T.cN T.lM zaR (di 1))) (NI (uv (jV (u:= "tuple") T.cN T.ql zbW (di 1))))))
   (jJ (rR (iM NQ (jV (u:= "list") T.cN T.lM zaR (di 1)) (jV (u:= "list") T.cN T.lM zaR (di 0)) (jS _))
   (jW (lE yK))
   ng)
   (jJ (rR (iM NQ (jV (u:= "tuple") T.cN T.ql zbW (di 1)) (jV (u:= "tuple") T.cN T.ql zbW (di 0)) (jS _))
   (jW (lE yK))
   ng)
   (jJ (rR (iM NQ (cF jI T.jO zaS (lC (di 0) ux)) (cF jI T.jO zaS (lC (di 1) ux)) (jS _))
   (jW (lE yK))
   ng)
   (jJ (oV zch (Ib T.Yl (lC (di 0) (lC (di 1) ux))) (m_ (n:=2) (uE (eB 2 Bo.nd) (uE (eB 3 Bo.nd) HG)))
   (jW (rR (NH (uv (AK IH (zaf _) T.se.m T.se.F.kp T.se.b aG (lC (di 2) (lC (di 3) ux)))))
   (jW (lE yK))
   ng)))
   (jW (lE yK))))))
   ng)
   (jJ (rR (iM Ue (di 1) Fv (jS _))
   (jW (lE (iK Ue (di 0) Fv (jS _))))
   ng)
   (jJ (rR (uv (jV (u:= "str") T.cN T.Yj zfb (di 1)))
   (jW (lE (Ax (jV (u:= "str") T.cN T.Yj zfb (di 0)) (Fx (iK Ud (di 0) (di 1) (jS _))))))
   ng)
   (jW (lE (Ax (jV (u:= "int") T.cN T.DJ zcg (di 0)) (Ax (Fy (jV (u:= "bool") T.cN T.adA PyProof.Rows.boot_bool (di 0))) (Fx (iK Ud (di 0) (di 1) (jS _))))))))))
abbrev ZT:List Str:=["_law_script","_law_draw","_law_rules_here","_law_match","_law_log","_law_handed","_law_due_here","_law_found"]
theorem Bp:au ZT ["_law_script"] (aj Yi):=fV
def QN:Fn:=dM ZT (ao (br 1 (dR 1 DQ (af (aa 0) ak)))
   (ao (Kd (dR 1 Jc (af (aa 1) ak)) (HH 2 (dw (bB 2) (dw (bB 3) pU))))
   (ao (br 4 (dR 2 Jd (af (aa 1) (af (aO "Match" "log" 1 Je (aa 3) ak) ak))))
   (ao (br 5 (bN pT (af (aa 4) ak)))
   (ao (br 6 (dR 2 Jf (af (aa 2) (af (aa 4) ak))))
   (ao (br 7 (dR 2 Ea (af (aa 2) (af (aa 5) ak))))
   (ao (cH (Fw (xK (mB (dR 2 (iW 3) (af (aa 7) (af (aa 6) ak))))) (mB (ai (cC true) (aa 5) (aa 4))))
   (aE (mC (.bl false)))
   aD)
   (ao (fB (xN LS uD (aa 7) ak))
   (aE (dR 2 (iW 3) (af (dR 2 Ea (af (aa 2) (af (aa 5) ak))) (af (aa 6) ak))))))))))))
theorem aez (T:Txt K mg a):aP P w K mg base eO 11 a.Dw a.oZ ["_law_script"] (dW K (aF a) 1 QN):=
 aU T.Pw.F Bp λ_ _ _ _ _ _=>(by have:=Bp.nd;exists (cL (adR T) T.Ym ?_),(cL (aeq T) T.YE ?_),(Ur (n:=2) ?_),(eB 2 Bp.nd),(eB 3 Bp.nd),(cL (aer T) T.YF ?_),(aR (aA T) (VI T) (aes T) (by decide) T.Pu.b aG ?_),(c_ qV T.lM zaR ?_),(cL (aet T) T.YG ?_),(cL (aey T) T.YL ?_),(AK (QM T 3) (by decide) T.se.m T.se.F.kp T.se.b aG ?_),(Ul zbo PySem.F.slot_list_clear PySem.F.type_list_clear oU Uo ?_))
end
theorem Bq (c:Nat):Str.length ⟨#[c]⟩=1:=rfl
theorem VR (a b:Str):(a++b).length=a.length+b.length:=by
 have:(a++b).cps.toList.length=a.cps.toList.length+b.cps.toList.length:=by rw[Nb,zan]
 simpa[Str.length] using this
theorem VS (l:List Tr)(i j:Nat)(h:i<=j):FD l (some (i:Int)) (some (j:Int))=(l.take j).drop i:=by
 unfold FD;simp only[HT.SW];rw[List.drop_take];by_cases h1:i<=l.length
 ·rw[Nat.min_eq_left h1]
  by_cases h2:j<=l.length
  ·rw[Nat.min_eq_left h2]
  ·rw[Nat.min_eq_right (by omega)]
   rw[zbd (by simp),zbd (by simp;omega)]
 ·rw[zeQ (as:=l) (i:=i) (by omega),zeQ (as:=l) (i:=min i l.length) (by rw[Nat.min_eq_right (by omega)];exact zaf _)]
  simp
section
variable {x0 x1 x2 x3 x4 x5 x6 x7 x8 x9 iE iu v:Tr}
noncomputable abbrev mr (x0 x1 x2 x3 x4 x5 x6:Tr):List (Str×Tr):=[("rules",x0),("sides",x1),("known",x2),("played",x3),("followed",x4),("closed",x5),("balls_told",x6)]
noncomputable abbrev FL:=List (Str×Tr)
noncomputable abbrev ir (x0 x1 x2 x3 x4 x5 x6 x7 x8 x9 iE iu:Tr):FL:=[("side",x0),("facing",x1),("other",x2),("bowler",x3),("ahead",x4),("total",x5),("wickets",x6),("overs",x7),("balls",x8),("ending",x9),("outs",iE),("spells",iu)]
theorem aeA:cy ("rules":Str) v ([]:FL)=([("rules",v)]:FL):=by kernel_rfl
theorem aeB:aN ("rules":Str) (mr x0 x1 x2 x3 x4 x5 x6)=some x0:=by kernel_rfl
theorem aeC:cy ("sides":Str) v ([("rules",x0)]:FL)=([("rules",x0),("sides",v)]:FL):=by kernel_rfl
theorem aeD:aN ("sides":Str) (mr x0 x1 x2 x3 x4 x5 x6)=some x1:=by kernel_rfl
theorem aeE:cy ("sides":Str) v (mr x0 x1 x2 x3 x4 x5 x6)=mr x0 v x2 x3 x4 x5 x6:=by kernel_rfl
theorem aeF:cy ("known":Str) v ([("rules",x0),("sides",x1)]:FL)=([("rules",x0),("sides",x1),("known",v)]:FL):=by kernel_rfl
theorem aeG:aN ("known":Str) (mr x0 x1 x2 x3 x4 x5 x6)=some x2:=by kernel_rfl
theorem aeH:cy ("played":Str) v ([("rules",x0),("sides",x1),("known",x2)]:FL)=([("rules",x0),("sides",x1),("known",x2),("played",v)]:FL):=by kernel_rfl
theorem aeI:aN ("played":Str) (mr x0 x1 x2 x3 x4 x5 x6)=some x3:=by kernel_rfl
theorem aeJ:cy ("followed":Str) v ([("rules",x0),("sides",x1),("known",x2),("played",x3)]:FL)=([("rules",x0),("sides",x1),("known",x2),("played",x3),("followed",v)]:FL):=by kernel_rfl
theorem aeK:aN ("followed":Str) (mr x0 x1 x2 x3 x4 x5 x6)=some x4:=by kernel_rfl
theorem aeL:cy ("followed":Str) v (mr x0 x1 x2 x3 x4 x5 x6)=mr x0 x1 x2 x3 v x5 x6:=by kernel_rfl
theorem aeM:cy ("closed":Str) v ([("rules",x0),("sides",x1),("known",x2),("played",x3),("followed",x4)]:FL)=([("rules",x0),("sides",x1),("known",x2),("played",x3),("followed",x4),("closed",v)]:FL):=by kernel_rfl
theorem aeN:aN ("closed":Str) (mr x0 x1 x2 x3 x4 x5 x6)=some x5:=by kernel_rfl
theorem aeO:cy ("closed":Str) v (mr x0 x1 x2 x3 x4 x5 x6)=mr x0 x1 x2 x3 x4 v x6:=by kernel_rfl
theorem aeP:cy ("balls_told":Str) v ([("rules",x0),("sides",x1),("known",x2),("played",x3),("followed",x4),("closed",x5)]:FL)=([("rules",x0),("sides",x1),("known",x2),("played",x3),("followed",x4),("closed",x5),("balls_told",v)]:FL):=by kernel_rfl
theorem aeQ:aN ("balls_told":Str) (mr x0 x1 x2 x3 x4 x5 x6)=some x6:=by kernel_rfl
theorem aeR:aN ("going":Str) (mr x0 x1 x2 x3 x4 x5 x6)=none:=by kernel_rfl
theorem aeS:aN ("state":Str) (mr x0 x1 x2 x3 x4 x5 x6)=none:=by kernel_rfl
theorem aeT:aN ("most_innings":Str) (mr x0 x1 x2 x3 x4 x5 x6)=none:=by kernel_rfl
theorem aeU:aN ("total_of":Str) (mr x0 x1 x2 x3 x4 x5 x6)=none:=by kernel_rfl
theorem aeV:aN ("lead_of":Str) (mr x0 x1 x2 x3 x4 x5 x6)=none:=by kernel_rfl
theorem aeW:aN ("is_done":Str) (mr x0 x1 x2 x3 x4 x5 x6)=none:=by kernel_rfl
theorem aeX:aN ("next_side":Str) (mr x0 x1 x2 x3 x4 x5 x6)=none:=by kernel_rfl
theorem aeY:aN ("may_follow":Str) (mr x0 x1 x2 x3 x4 x5 x6)=none:=by kernel_rfl
theorem aeZ:aN ("side_to_start":Str) (mr x0 x1 x2 x3 x4 x5 x6)=none:=by kernel_rfl
theorem ae0:aN ("start_refusal":Str) (mr x0 x1 x2 x3 x4 x5 x6)=none:=by kernel_rfl
theorem ae1:aN ("swap_refusal":Str) (mr x0 x1 x2 x3 x4 x5 x6)=none:=by kernel_rfl
theorem ae2:aN ("follow_refusal":Str) (mr x0 x1 x2 x3 x4 x5 x6)=none:=by kernel_rfl
theorem ae3:aN ("refusal":Str) (mr x0 x1 x2 x3 x4 x5 x6)=none:=by kernel_rfl
theorem ae4:aN ("begin":Str) (mr x0 x1 x2 x3 x4 x5 x6)=none:=by kernel_rfl
theorem ae5:aN ("play_ball":Str) (mr x0 x1 x2 x3 x4 x5 x6)=none:=by kernel_rfl
theorem ae6:aN ("swap_player":Str) (mr x0 x1 x2 x3 x4 x5 x6)=none:=by kernel_rfl
theorem ae7:aN ("close":Str) (mr x0 x1 x2 x3 x4 x5 x6)=none:=by kernel_rfl
theorem ae8:aN ("do":Str) (mr x0 x1 x2 x3 x4 x5 x6)=none:=by kernel_rfl
theorem ae9:aN ("ending_due":Str) (mr x0 x1 x2 x3 x4 x5 x6)=none:=by kernel_rfl
theorem afa:aN ("tell":Str) (mr x0 x1 x2 x3 x4 x5 x6)=none:=by kernel_rfl
theorem afb:aN ("turn":Str) (mr x0 x1 x2 x3 x4 x5 x6)=none:=by kernel_rfl
theorem afc:aN ("players":Str) (mr x0 x1 x2 x3 x4 x5 x6)=none:=by kernel_rfl
theorem afd:aN ("log":Str) (mr x0 x1 x2 x3 x4 x5 x6)=none:=by kernel_rfl
theorem QO:(("Match":Str)∈(["Match"]:List Str))=True:=eq_true (zaN.mpr rfl)
theorem afe:cy ("side":Str) v ([]:FL)=([("side",v)]:FL):=by kernel_rfl
theorem afg:aN ("side":Str) (ir x0 x1 x2 x3 x4 x5 x6 x7 x8 x9 iE iu)=some x0:=by kernel_rfl
theorem afh:cy ("facing":Str) v ([("side",x0)]:FL)=([("side",x0),("facing",v)]:FL):=by kernel_rfl
theorem afi:aN ("facing":Str) (ir x0 x1 x2 x3 x4 x5 x6 x7 x8 x9 iE iu)=some x1:=by kernel_rfl
theorem afj:cy ("facing":Str) v (ir x0 x1 x2 x3 x4 x5 x6 x7 x8 x9 iE iu)=ir x0 v x2 x3 x4 x5 x6 x7 x8 x9 iE iu:=by kernel_rfl
theorem afk:cy ("other":Str) v ([("side",x0),("facing",x1)]:FL)=([("side",x0),("facing",x1),("other",v)]:FL):=by kernel_rfl
theorem afl:aN ("other":Str) (ir x0 x1 x2 x3 x4 x5 x6 x7 x8 x9 iE iu)=some x2:=by kernel_rfl
theorem afm:cy ("other":Str) v (ir x0 x1 x2 x3 x4 x5 x6 x7 x8 x9 iE iu)=ir x0 x1 v x3 x4 x5 x6 x7 x8 x9 iE iu:=by kernel_rfl
theorem afn:cy ("bowler":Str) v ([("side",x0),("facing",x1),("other",x2)]:FL)=([("side",x0),("facing",x1),("other",x2),("bowler",v)]:FL):=by kernel_rfl
theorem afo:aN ("bowler":Str) (ir x0 x1 x2 x3 x4 x5 x6 x7 x8 x9 iE iu)=some x3:=by kernel_rfl
theorem afp:cy ("bowler":Str) v (ir x0 x1 x2 x3 x4 x5 x6 x7 x8 x9 iE iu)=ir x0 x1 x2 v x4 x5 x6 x7 x8 x9 iE iu:=by kernel_rfl
theorem afq:cy ("ahead":Str) v ([("side",x0),("facing",x1),("other",x2),("bowler",x3)]:FL)=([("side",x0),("facing",x1),("other",x2),("bowler",x3),("ahead",v)]:FL):=by kernel_rfl
theorem afr:aN ("ahead":Str) (ir x0 x1 x2 x3 x4 x5 x6 x7 x8 x9 iE iu)=some x4:=by kernel_rfl
theorem afs:cy ("ahead":Str) v (ir x0 x1 x2 x3 x4 x5 x6 x7 x8 x9 iE iu)=ir x0 x1 x2 x3 v x5 x6 x7 x8 x9 iE iu:=by kernel_rfl
theorem aft:cy ("total":Str) v ([("side",x0),("facing",x1),("other",x2),("bowler",x3),("ahead",x4)]:FL)=([("side",x0),("facing",x1),("other",x2),("bowler",x3),("ahead",x4),("total",v)]:FL):=by kernel_rfl
theorem afu:aN ("total":Str) (ir x0 x1 x2 x3 x4 x5 x6 x7 x8 x9 iE iu)=some x5:=by kernel_rfl
theorem afv:cy ("total":Str) v (ir x0 x1 x2 x3 x4 x5 x6 x7 x8 x9 iE iu)=ir x0 x1 x2 x3 x4 v x6 x7 x8 x9 iE iu:=by kernel_rfl
theorem afw:cy ("wickets":Str) v ([("side",x0),("facing",x1),("other",x2),("bowler",x3),("ahead",x4),("total",x5)]:FL)=([("side",x0),("facing",x1),("other",x2),("bowler",x3),("ahead",x4),("total",x5),("wickets",v)]:FL):=by kernel_rfl
theorem afx:aN ("wickets":Str) (ir x0 x1 x2 x3 x4 x5 x6 x7 x8 x9 iE iu)=some x6:=by kernel_rfl
theorem afy:cy ("wickets":Str) v (ir x0 x1 x2 x3 x4 x5 x6 x7 x8 x9 iE iu)=ir x0 x1 x2 x3 x4 x5 v x7 x8 x9 iE iu:=by kernel_rfl
theorem afz:cy ("overs":Str) v ([("side",x0),("facing",x1),("other",x2),("bowler",x3),("ahead",x4),("total",x5),("wickets",x6)]:FL)=([("side",x0),("facing",x1),("other",x2),("bowler",x3),("ahead",x4),("total",x5),("wickets",x6),("overs",v)]:FL):=by kernel_rfl
theorem afA:aN ("overs":Str) (ir x0 x1 x2 x3 x4 x5 x6 x7 x8 x9 iE iu)=some x7:=by kernel_rfl
theorem afB:cy ("overs":Str) v (ir x0 x1 x2 x3 x4 x5 x6 x7 x8 x9 iE iu)=ir x0 x1 x2 x3 x4 x5 x6 v x8 x9 iE iu:=by kernel_rfl
theorem afC:cy ("balls":Str) v ([("side",x0),("facing",x1),("other",x2),("bowler",x3),("ahead",x4),("total",x5),("wickets",x6),("overs",x7)]:FL)=([("side",x0),("facing",x1),("other",x2),("bowler",x3),("ahead",x4),("total",x5),("wickets",x6),("overs",x7),("balls",v)]:FL):=by kernel_rfl
theorem afD:aN ("balls":Str) (ir x0 x1 x2 x3 x4 x5 x6 x7 x8 x9 iE iu)=some x8:=by kernel_rfl
theorem afE:cy ("balls":Str) v (ir x0 x1 x2 x3 x4 x5 x6 x7 x8 x9 iE iu)=ir x0 x1 x2 x3 x4 x5 x6 x7 v x9 iE iu:=by kernel_rfl
theorem afF:cy ("ending":Str) v ([("side",x0),("facing",x1),("other",x2),("bowler",x3),("ahead",x4),("total",x5),("wickets",x6),("overs",x7),("balls",x8)]:FL)=([("side",x0),("facing",x1),("other",x2),("bowler",x3),("ahead",x4),("total",x5),("wickets",x6),("overs",x7),("balls",x8),("ending",v)]:FL):=by kernel_rfl
theorem afG:aN ("ending":Str) (ir x0 x1 x2 x3 x4 x5 x6 x7 x8 x9 iE iu)=some x9:=by kernel_rfl
theorem afH:cy ("ending":Str) v (ir x0 x1 x2 x3 x4 x5 x6 x7 x8 x9 iE iu)=ir x0 x1 x2 x3 x4 x5 x6 x7 x8 v iE iu:=by kernel_rfl
theorem VT:cy ("outs":Str) v ([("side",x0),("facing",x1),("other",x2),("bowler",x3),("ahead",x4),("total",x5),("wickets",x6),("overs",x7),("balls",x8),("ending",x9)]:FL)=([("side",x0),("facing",x1),("other",x2),("bowler",x3),("ahead",x4),("total",x5),("wickets",x6),("overs",x7),("balls",x8),("ending",x9),("outs",v)]:FL):=by kernel_rfl
theorem VU:aN ("outs":Str) (ir x0 x1 x2 x3 x4 x5 x6 x7 x8 x9 iE iu)=some iE:=by kernel_rfl
theorem VW:cy ("outs":Str) v (ir x0 x1 x2 x3 x4 x5 x6 x7 x8 x9 iE iu)=ir x0 x1 x2 x3 x4 x5 x6 x7 x8 x9 v iu:=by kernel_rfl
theorem VX:cy ("spells":Str) v ([("side",x0),("facing",x1),("other",x2),("bowler",x3),("ahead",x4),("total",x5),("wickets",x6),("overs",x7),("balls",x8),("ending",x9),("outs",iE)]:FL)=([("side",x0),("facing",x1),("other",x2),("bowler",x3),("ahead",x4),("total",x5),("wickets",x6),("overs",x7),("balls",x8),("ending",x9),("outs",iE),("spells",v)]:FL):=by kernel_rfl
theorem VY:aN ("spells":Str) (ir x0 x1 x2 x3 x4 x5 x6 x7 x8 x9 iE iu)=some iu:=by kernel_rfl
theorem VZ:cy ("spells":Str) v (ir x0 x1 x2 x3 x4 x5 x6 x7 x8 x9 iE iu)=ir x0 x1 x2 x3 x4 x5 x6 x7 x8 x9 iE v:=by kernel_rfl
theorem afI:aN ("stands":Str) (ir x0 x1 x2 x3 x4 x5 x6 x7 x8 x9 iE iu)=none:=by kernel_rfl
theorem akB:aN ("has_gap":Str) (ir x0 x1 x2 x3 x4 x5 x6 x7 x8 x9 iE iu)=none:=by kernel_rfl
theorem akC:aN ("has_left":Str) (ir x0 x1 x2 x3 x4 x5 x6 x7 x8 x9 iE iu)=none:=by kernel_rfl
theorem akD:aN ("change_ends":Str) (ir x0 x1 x2 x3 x4 x5 x6 x7 x8 x9 iE iu)=none:=by kernel_rfl
theorem akE:aN ("leave":Str) (ir x0 x1 x2 x3 x4 x5 x6 x7 x8 x9 iE iu)=none:=by kernel_rfl
theorem akF:aN ("come_in":Str) (ir x0 x1 x2 x3 x4 x5 x6 x7 x8 x9 iE iu)=none:=by kernel_rfl
theorem akG:aN ("bowl_next":Str) (ir x0 x1 x2 x3 x4 x5 x6 x7 x8 x9 iE iu)=none:=by kernel_rfl
theorem akH:aN ("out_by":Str) (ir x0 x1 x2 x3 x4 x5 x6 x7 x8 x9 iE iu)=none:=by kernel_rfl
theorem akI:aN ("fall":Str) (ir x0 x1 x2 x3 x4 x5 x6 x7 x8 x9 iE iu)=none:=by kernel_rfl
theorem akJ:aN ("count_fair":Str) (ir x0 x1 x2 x3 x4 x5 x6 x7 x8 x9 iE iu)=none:=by kernel_rfl
theorem afJ:aN ("play":Str) (ir x0 x1 x2 x3 x4 x5 x6 x7 x8 x9 iE iu)=none:=by kernel_rfl
theorem afK:aN ("rename":Str) (ir x0 x1 x2 x3 x4 x5 x6 x7 x8 x9 iE iu)=none:=by kernel_rfl
theorem Gr:(("Innings":Str)∈(["Innings"]:List Str))=True:=eq_true (zaN.mpr rfl)
end
def fx:=jp @aeA<|jp @aeB<|jp @aeC<|jp @aeD<|jp @aeE<|jp @aeF<|jp @aeG<|jp @aeH<|jp @aeI<|jp @aeJ<|jp @aeK<|jp @aeL<|jp @aeM<|jp @aeN<|jp @aeO<|jp @aeP<|jp @aeQ<|jp @QO<|jp @aeR<|jp @aeS<|jp @aeT<|jp @aeU<|jp @aeV<|jp @aeW<|jp @aeX<|jp @aeY<|jp @aeZ<|jp @ae0<|jp @ae1<|jp @ae2<|jp @ae3<|jp @ae4<|jp @ae5<|jp @ae6<|jp @ae7<|jp @ae8<|jp @ae9<|jp @afa<|jp @afb<|jp @afc<|jp @afd<|jp @afe<|jp @afg<|jp @afh<|jp @afi<|jp @afj<|jp @afk<|jp @afl<|jp @afm<|jp @afn<|jp @afo<|jp @afp<|jp @afq<|jp @afr<|jp @afs<|jp @aft<|jp @afu<|jp @afv<|jp @afw<|jp @afx<|jp @afy<|jp @afz<|jp @afA<|jp @afB<|jp @afC<|jp @afD<|jp @afE<|jp @afF<|jp @afG<|jp @afH<|jp @VT<|jp @VU<|jp @VW<|jp @VX<|jp @VY<|jp @VZ<|jp @Gr<|jp @afI<|jp @akB<|jp @akC<|jp @akD<|jp @akE<|jp @akF<|jp @akG<|jp @akH<|jp @akI<|jp @akJ<|jp @afJ<|jp @afK<|@UM
noncomputable def cR (t0 t1:Str)(p0 p1:List Str):Tr:=.ls [.tp [.str t0,.ls (p0.map .str)],.tp [.str t1,.ls (p1.map .str)]]
structure U where
 o:Int
 v:Int
 s:Int
 w:Int
 n:Int
 d:Int
 i:Int
 f:Int
noncomputable def U.t (u:U):Tr:=.tp [.int u.o,.int u.v,.int u.s,.int u.w,.int u.n,.int u.d,.int u.i,.int u.f]
structure I where
 bW:Int
 o7:Str
 rY:Str
 wR:Str
 ZU:Str
 fM:Int
 wk:Int
 ov:Int
 ba:Int
 en:Str
 outs:List Str
 gS:List (Str×Int)
structure M where
 ru:U
 t0:Str
 t1:Str
 p0:List Str
 p1:List Str
 kn:List Str
 pl:List I
 ZV:Bool
 clo:Bool
 fN:List Tr
structure L3 where
 i:Nat
 o:Nat
 s:Nat
structure Ly where
 a:Nat
 k:Nat
 p:Nat
 l:Nat
 cs:List L3
noncomputable def jz (x:I)(c:L3):List (Str×Tr):=[("side",.int x.bW),("facing",.str x.o7),("other",.str x.rY),("bowler",.str x.wR),("ahead",.str x.ZU),("total",.int x.fM),("wickets",.int x.wk),("overs",.int x.ov),("balls",.int x.ba),("ending",.str x.en),("outs",.hd c.o),("spells",.hd c.s)]
noncomputable def iF (l:List Str):List (dF×Tr):=l.map λk=>(.inr k,.bl true)
noncomputable def tu (l:List (Str×Int)):List (dF×Tr):=l.map λp=>(.inr p.1,.int p.2)
structure g9 (S:Cs) (x:I) (c:L3):Prop where
 i:S[c.i]? = some (.fH "Innings" (jz x c))
 o:S[c.o]? = some (.iy (iF x.outs))
 s:S[c.s]? = some (.iy (tu x.gS))
structure Dj (c:L3):Prop where
 io:c.i≠c.o
 is:c.i≠c.s
 os:c.o≠c.s
def kL (S:Cs)(x:I)(c:L3):Cs:=((S.set c.i (.fH "Innings" (jz x c))).set c.o (.iy (iF x.outs))).set c.s (.iy (tu x.gS))
theorem bh {S:Cs}{n:Nat}{c:Ce}(h:S[n]? = some c):n<S.length:=(zae.mp h).1
theorem cO {S:Cs}{n:Nat}{c:Ce}(h:n<S.length):(S.set n c)[n]? = some c:=zaM h
theorem dz {S:Cs}{n k:Nat}{c:Ce}(h:¬ n=k):(S.set n c)[k]? = S[k]?:= zaK h
theorem fE {S:Cs}{n:Nat}{c d:Ce}:(S.set n c).set n d=S.set n d:=zeu ..
theorem lO {S:Cs}{x y:I}{c:L3}(h:g9 S x c)(d:Dj c):g9 (kL S y c) y c where
 i:=by
  unfold kL;rw[dz d.is.symm,dz d.io.symm,cO (bh h.i)]
 o:=by
  unfold kL;rw[dz d.os.symm,cO (by rw[zeJ];exact bh h.o)]
 s:=by
  unfold kL;rw[cO (by rw[zeJ,zeJ];exact bh h.s)]
theorem nQ {S:Cs}{x y:I}{c:L3}(d:Dj c):kL (kL S x c) y c=kL S y c:=by
 unfold kL;rw[zdq (i:=c.s) (j:=c.i) _ _ d.is.symm,zdq (i:=c.o) (j:=c.i) _ _ d.io.symm,fE,zdq (i:=c.s) (j:=c.o) _ _ d.os.symm,fE,fE]
theorem mq {S:Cs}{x y:I}{c:L3}(h:g9 S x c)(d:Dj c)(ho:y.outs=x.outs)(hs:y.gS=x.gS):S.set c.i (.fH "Innings" (jz y c))=kL S y c:=by
 unfold kL;rw[ho,hs,jm (i:=c.o) (by rw[dz d.io];exact h.o),jm (i:=c.s) (by rw[dz d.is];exact h.s)]
theorem gj {x:Str}{l:List Str}:LQ (.str x) (l.map .str)=decide (x∈l):=by
 rw[zbu];simp only[LQ,zdh,zcs,Function.comp,eqF,beq_iff_eq,decide_eq_true_eq];exact⟨λ⟨y,h,e⟩=>e ▸ h,λh=>⟨x,h,rfl⟩⟩
theorem V0:LQ (.str x) [.str a,.str b]=decide (x=a\/x=b):=by
 rw[zbu];simp only[LQ,zcy,zfz,eqF,zfi,zeF,decide_eq_true_eq,beq_iff_eq];exact⟨λh=>h.imp zdl zdl,λh=>h.imp zdl zdl⟩
theorem in3:LQ (.str x) [.str a,.str b,.str c]=decide (x=a\/x=b\/x=c):=by
 rw[zbu];simp only[LQ,zcy,zfz,eqF,zfi,zeF,decide_eq_true_eq,beq_iff_eq];exact⟨λh=>h.imp zdl (·.imp zdl zdl),λh=>h.imp zdl (·.imp zdl zdl)⟩
theorem bX:iU (.str s)=true:=rfl
theorem gm {l:List Str}:(l.map Tr.str).all iU=true:=by
 rw[zaQ];intro x hx;obtain⟨s,_,rfl⟩:=zba.mp hx;rfl
theorem kM:∀{l:List Str},(aN (.inr k) (iF l)).isSome=decide (k∈l)
 |[]=>rfl
 |a::r=>by
  unfold iF;rw[oh];unfold aN;by_cases h:a=k
  ·subst h;rw[if_pos rfl];simp
  ·rw[if_neg (λz=>h (zdO z))]
   have:=kM (k:=k) (l:=r)
   unfold iF at this;rw[this];simp[zam,zbe h]
noncomputable def I.dB (x:I)(n:Str):Bool:=decide (n=x.o7\/n=x.rY)
def I.R6 (x:I):Bool:=x.dB ""
def I.left (x:I)(ps:List Str):Bool:=ps.any λn=>!decide (n∈x.outs) && !x.dB n
noncomputable def I.swap (x:I):I:={x with o7:=x.rY,rY:=x.o7}
noncomputable def I.gK (x:I)(n:Str):I:=if x.o7=n then { x with o7:= "" } else { x with rY:= "" }
noncomputable def I.Eb (x:I)(n:Str):I:=if x.o7="" then {x with o7:=n} else {x with rY:=n}
section
variable {S:Cs}{x:I}{c:L3}
theorem kN (h:g9 S x c)(n:Str):qt [.hd c.i,.str n] S = .ok (.bl (x.dB n)) S:=by
 unfold qt I.dB;have hi:=h.i;unfold jz at hi;simp?[fx,hi,zbi,zbG,bX,zbz,V0]
theorem QS (h:g9 S x c):K0 [.hd c.i] S = .ok (.bl x.R6) S:=by
 unfold K0 I.R6;have e:=kN h ""
 have hi:=h.i;unfold jz at hi;simp?[fx,hi,e]
theorem Gs (h:g9 S x c)(d:Dj c):K1 [.hd c.i] S = .ok .bq (kL S x.swap c):=by
 unfold K1;rw[<-mq (y:=x.swap) h d rfl rfl];have hl:=bh h.i;have hi:=h.i;unfold jz at *
 simp?[fx,hi,hl,cO,fE,I.swap]
theorem Jj (h:g9 S x c)(d:Dj c)(n:Str):Qp [.hd c.i,.str n] S = .ok .bq (kL S (x.gK n) c):=by
 unfold Qp I.gK;have hl:=bh h.i;have hi:=h.i;by_cases hn:x.o7=n
 ·rw[if_pos hn,<-mq (x:=x) (y:={ x with o7:= "" }) h d rfl rfl]
  unfold jz at *
  simp?[fx,hi,hl,cO,fE,hn]
 ·rw[if_neg hn,<-mq (x:=x) (y:={ x with rY:= "" }) h d rfl rfl]
  unfold jz at *
  simp?[fx,hi,hl,cO,fE,hn]
theorem afL (h:g9 S x c)(d:Dj c)(n:Str):VO [.hd c.i,.str n] S = .ok .bq (kL S (x.Eb n) c):=by
 unfold VO I.Eb;have hl:=bh h.i;have hi:=h.i;by_cases hn:x.o7=""
 ·rw[if_pos hn,<-mq (x:=x) (y:={x with o7:=n}) h d rfl rfl]
  unfold jz at *
  simp?[fx,hi,hl,cO,fE,hn]
 ·rw[if_neg hn,<-mq (x:=x) (y:={x with rY:=n}) h d rfl rfl]
  unfold jz at *
  simp?[fx,hi,hl,cO,fE,hn]
end
structure B where
 k:Str
 r:Int
 rp:Bool
 w:Str
 ZW:Str
 en:Str
noncomputable def B.t (b:B):Tr:=.tp [.str "ball",.str b.k,.int b.r,.bl b.rp,.str b.w,.str b.ZW,.str b.en]
noncomputable def dG:Option Str->Tr|none=>.bq|some s=>.str s
noncomputable def Jk (k:Str)(r:Int):Bool:=if r=4 then true else if r=6 then decide (k="bat" \/ k="no") else false
noncomputable def QT (k:Str)(r:Int)(rp:Bool)(w:Str):Bool:=if w="" then true else if rp=true then false else if w="run" then true else if r≠0 then false else if w="stumped" \/ w="hit" then decide (k="bat" \/ k="wide") else decide (k="bat")
def B.zM (b:B):Option Str:=if (b.rp && !Jk b.k b.r)=true then some "rope" else if QT b.k b.r b.rp b.w=true then none else some "way"
theorem afM (k:Str)(r:Int)(S:Cs):II [.str k,.int r] S = .ok (.bl (Jk k r)) S:=by
 unfold II Jk;simp?[zbi,zbG,bX,zbz,V0]
theorem akK (k:Str)(r:Int)(rp:Bool)(w:Str)(S:Cs):IJ [.str k,.int r,.bl rp,.str w] S = .ok (.bl (QT k r rp w)) S:=by
 unfold IJ QT;by_cases h1:w=""
 ·simp?[h1]
 ·cases rp with
  |true=>simp?[h1]
  |false =>
   by_cases h2:w="run"
   ·simp?[fx,h2]
   ·by_cases h3:r=0
    ·by_cases h4:w="stumped" \/ w="hit"
     ·simp?[fx,h1,h2,h3,h4,zbi,zbG,bX,zbz,V0,ne_eq]
     ·simp?[fx,h1,h2,h3,h4,zbi,zbG,bX,zbz,V0,ne_eq]
    ·simp?[fx,h1,h2,h3,ne_eq]
theorem V1 (b:B)(S:Cs):IK [b.t] S = .ok (dG b.zM) S:=by
 unfold IK B.t B.zM;have e1:=λS=>afM b.k b.r S
 have e2:=λS=>akK b.k b.r b.rp b.w S
 obtain⟨k,r,rp,w,ZW,en⟩:=b;simp only at e1 e2 ⊢
 cases rp with
 |false =>
  cases h2:QT k r false w<;>simp?[e1,e2,h2,dG,zdJ]
 |true =>
  cases h1:Jk k r
  ·simp?[e1,e2,h1,dG,zds]
  ·cases h2:QT k r true w<;>simp?[e1,e2,h1,h2,dG,zds]
structure By where
 Gu:Int
 ext:Int
 cha:Int
noncomputable def LU (u:U)(k:Str)(r:Int):By:=if k="bat" then ⟨r,0,r⟩ else if k="wide" then ⟨0,u.w+r,u.w+r⟩ else if k="no" then ⟨r,u.n,u.n+r⟩ else if k="nobye" then ⟨0,u.n+r,u.n⟩ else ⟨0,r,0⟩
noncomputable def sr (k:Str):Bool:=decide (k="bat" \/ k="bye" \/ k="leg")
noncomputable def o8 (r:Int)(rp:Bool):Bool:=if r % 2=1 then !rp else false
noncomputable def ZX (w:Str):Bool:=!decide (w="" \/ w="run")
def B.V2 (u:U)(b:B):Int:=(LU u b.k b.r).Gu+(LU u b.k b.r).ext
def B.Gv (u:U)(b:B):Tr:=.tp [.int (b.V2 u),.int (LU u b.k b.r).Gu,.int (LU u b.k b.r).ext,.int (LU u b.k b.r).cha,.bl (sr b.k),.bl (!decide (b.k="wide")),.bl (o8 b.r b.rp),.bl (ZX b.w)]
theorem aoy (u:U)(k:Str)(r:Int)(S:Cs):IT [u.t,.str k,.int r] S = .ok (.tp [.int (LU u k r).Gu,.int (LU u k r).ext,.int (LU u k r).cha]) S:=by
 unfold IT U.t LU;by_cases h1:k="bat"
 ·simp?[fx,h1]
 ·by_cases h2:k="wide"
  ·simp?[fx,h2]
  ·by_cases h3:k="no"
   ·simp?[fx,h3]
   ·by_cases h4:k="nobye"
    ·simp?[fx,h4]
    ·simp?[fx,h1,h2,h3,h4]
theorem QU (u:U)(b:B)(S:Cs):DX [u.t,b.t] S = .ok (b.Gv u) S:=by
 unfold DX B.Gv B.V2 B.t sr o8 ZX;have e1:=λS=>aoy u b.k b.r S
 unfold U.t at *
 simp?[e1,zbi,zbG,bX,zbz,V0,in3]
noncomputable def I.out (x:I)(b:B):Str:=if b.w="run" then b.ZW else if b.w="" then "" else x.o7
section
variable {S:Cs}{x:I}{c:L3}
theorem V3 (h:g9 S x c)(b:B):VL [.hd c.i,b.t] S = .ok (.str (x.out b)) S:=by
 unfold VL I.out B.t;have hi:=h.i;unfold jz at hi;by_cases h1:b.w="run"
 ·simp?[fx,hi,h1]
 ·by_cases h2:b.w="" <;> simp?[fx,hi,h1,h2]
end
noncomputable def gM (l:List Str)(n:Str):List Str:=if n∈l then l else l++[n]
noncomputable def jr (l:List (Str×Int))(n:Str):Int:=match l with|[]=>0 | (k,v)::r=>if k=n then v else jr r n
noncomputable def ny (l:List (Str×Int))(n:Str)(v:Int):List (Str×Int):=if (l.any λp=>decide (p.1=n))=true then l.map (λp=>if p.1=n then (p.1,v) else p) else l++[(n,v)]
theorem Ec:gy (iF l) (.inr n) (.bl true)=iF (gM l n):=by
 unfold gy gM;have h1:((iF l).any λkv=>decide (kv.1=(.inr n:dF)))=decide (n∈l):=by
  unfold iF;rw[zdh,zbu,zcs];simp only[Function.comp,decide_eq_true_eq];exact⟨λ⟨x,h,e⟩=>zdO e ▸ h,λh=>⟨n,h,rfl⟩⟩
 rw[h1];by_cases h:n∈l
 ·rw[if_pos (decide_eq_true h),if_pos h]
  unfold iF;rw[zaI];apply zbF
  intro x hx;simp only[Function.comp];split<;>rfl
 ·rw[if_neg (by simpa using h),if_neg h]
  unfold iF;rw[zaG];rfl
theorem tw:∀{l:List (Str×Int)},(aN (.inr n) (tu l)).getD (.int 0) = .int (jr l n)
 |[]=>rfl
 | (k,v)::r=>by
  unfold tu;rw[oh];unfold aN jr;by_cases h:k=n
  ·subst h;rw[if_pos rfl,if_pos rfl];rfl
  ·rw[if_neg (λz=>h (zdO z)),if_neg h]
   exact tw (n:=n) (l:=r)
theorem Jl:gy (tu l) (.inr n) (.int v)=tu (ny l n v):=by
 unfold gy ny;have h1:((tu l).any λkv=>decide (kv.1=(.inr n:dF)))=l.any λp=>decide (p.1=n):=by
  unfold tu;rw[zdh];congr 1
  funext p
  simp only[Function.comp,Sum.inr.injEq]
 rw[h1];split
 ·unfold tu
  rw[zaI,zaI];apply zbF
  intro x hx;simp only[Function.comp,Sum.inr.injEq];split<;>rfl
 ·unfold tu
  rw[zaG];rfl
theorem QV:(iF l).length=l.length:=by unfold iF;simp
theorem V5:(tu l).length=l.length:=by unfold tu;simp
def I.zN (x:I)(n:Str):I:={x with wR:=n,gS:=ny x.gS n (jr x.gS n+1)}
def I.ya (x:I)(n e:Str):I:=
 let y:=({x with outs:=gM x.outs n,wk:=x.wk+1}:I).gK n
 if (if y.o7="" then "strike" else "other")=e then y else y.swap
noncomputable def I.yb (x:I)(o:Int):I:=if o<=x.ba+1 then { x with ov:=x.ov+1,ba:=0,o7:=x.rY,rY:=x.o7,ZU:=x.wR,wR:= "" } else {x with ba:=x.ba+1}
def I.qu (u:U)(x:I)(b:B):I:=
 let x1:I:={x with fM:=x.fM+b.V2 u}
 let x2:=if o8 b.r b.rp=true then x1.swap else x1
 let x3:=if x.out b="" then x2 else x2.ya (x.out b) (if b.w="run" then b.en else "strike")
 if sr b.k=true then x3.yb u.o else x3
section
variable {S:Cs}{x:I}{c:L3}
theorem V6 (h:g9 S x c)(d:Dj c)(n:Str)(hl:x.gS.length<=1000):VP [.hd c.i,.str n] S = .ok .bq (kL S (x.zN n) c):=by
 unfold VP;have hi:=h.i;have hs:=h.s;have WY:=bh h.i;have hz:(x.gS.length<sizeLine)=True:=lF (by omega)
 have e:((S.set c.i (.fH "Innings" (jz {x with wR:=n} c))).set c.s (.iy (tu (ny x.gS n (jr x.gS n+1)))))=kL S (x.zN n) c:=by
  unfold kL I.zN;rw[jm (i:=c.o) (l:=S.set c.i _) (by rw[dz d.io];exact h.o)]
  rfl
 unfold jz at hi e;simp only[↓bp,bx,simprocAttr,fx,hi,hs,WY,cO,fE,dz d.is,d.is,d.is.symm,ne_eq,zbU,tw,Jl,V5,hz] at e ⊢
 rw[e]
theorem afN (h:g9 S x c)(d:Dj c)(n en:Str)(hl:x.outs.length<=1000):VM [.hd c.i,.str n,.str en] S = .ok .bq (kL S (x.ya n en) c):=by
 unfold VM;have hi:=h.i;have ho:=h.o;have hol:=bh h.o;have hz:(x.outs.length<sizeLine)=True:=lF (by omega)
 generalize hy:({x with outs:=gM x.outs n,wk:=x.wk+1}:I)=y
 have e:((S.set c.o (.iy (iF (gM x.outs n)))).set c.i (.fH "Innings" (jz {x with wk:=x.wk+1} c)))=kL S y c:=by
  rw[<-hy];unfold kL;rw[zdq _ _ d.io,jm (i:=c.s) (by rw[dz d.is,dz d.os];exact h.s)]
  rfl
 have hY:=lO (y:=y) h d
 have e1:=Jj hY d n;rw[nQ d] at e1;have hZ:=lO (y:=y.gK n) h d
 have hzi:=hZ.i;have e2:=Gs hZ d;rw[nQ d] at e2;have QW:=hY.i;have ef:x.ya n en=if (if (y.gK n).o7="" then "strike" else "other")=en then y.gK n else (y.gK n).swap:=by unfold I.ya;rw[hy]
 rw[ef];generalize y.gK n=z at *
 unfold jz at hi e hzi QW;simp only[↓bp,bx,simprocAttr,fx,hi,ho,hol,cO,fE,dz d.io.symm,d.io,d.io.symm,ne_eq,Ec,QV,hz] at e ⊢
 simp?[fx,e,e1,QW,hzi];by_cases hf:z.o7=""
 ·by_cases he:en="strike"
  ·subst he;simp?[fx,hf]
  ·have he':¬ "strike"=en:=λq=>he q.symm
   simp?[fx,hf,he',hzi,e2]
 ·by_cases he:en="other"
  ·subst he;simp?[fx,hf]
  ·have he':¬ "other"=en:=λq=>he q.symm
   simp?[fx,hf,he',hzi,e2]
theorem afO (h:g9 S x c)(d:Dj c)(o:Int):VN [.hd c.i,.int o] S = .ok .bq (kL S (x.yb o) c):=by
 unfold VN I.yb;have hi:=h.i;have WY:=bh h.i;by_cases ho:o<=x.ba+1
 ·rw[if_pos ho]
  generalize hy:({x with ov:=x.ov+1,ba:=0}:I)=y
  have e:=mq (y:=y) h d (by rw[<-hy]) (by rw[<-hy])
  have hY:=lO (y:=y) h d
  have e1:=Gs hY d;rw[nQ d] at e1;have QW:=hY.i;have hZ:=lO (y:=y.swap) h d
  have hZi:=hZ.i;have hZl:=bh hZ.i;have e2:=mq (y:={ y.swap with ZU:=y.wR,wR:= "" }) hZ d rfl rfl
  rw[nQ d] at e2;subst hy;unfold jz at hi e QW hZi e2;simp only[I.swap] at e1 hZi hZl e2 ⊢
  have sQ:¬ x.ba+1<o:=by omega
  simp?[fx,hi,WY,cO,fE,ho,ge_iff_le,e,e1,QW,hZi,hZl,e2]
 ·rw[if_neg ho]
  have e:=mq (y:={x with ba:=x.ba+1}) h d rfl rfl
  have QW:=(lO (y:={x with ba:=x.ba+1}) h d).i
  unfold jz at hi e QW;simp?[fx,hi,WY,cO,fE,ho,ge_iff_le,e,QW]
theorem afQ (h:g9 S x c)(d:Dj c)(u:U)(b:B)(hl:x.outs.length<=1000):IU [.hd c.i,u.t,b.t] S = .ok (.str (x.out b)) (kL S (x.qu u b) c):=by
 have e1:=QU u b S;have e2:=V3 h b;have hi:=h.i;have e3:=mq (y:=({x with fM:=x.fM+b.V2 u}:I)) h d rfl rfl
 obtain⟨y,hy⟩:∃y:I,y = {x with fM:=x.fM+b.V2 u}:=⟨_,rfl⟩
 obtain⟨z,hz⟩:∃z,z=if o8 b.r b.rp=true then y.swap else y:=⟨_,rfl⟩
 obtain⟨w,hw⟩:∃w,w=if x.out b="" then z else z.ya (x.out b) (if b.w="run" then b.en else "strike"):=⟨_,rfl⟩
 have hp:x.qu u b=if sr b.k=true then w.yb u.o else w:=by
  unfold I.qu;simp only[hw,hz,hy]
 have hzo:z.outs=x.outs:=by rw[hz,hy];split<;>rfl
 have hY:=lO (y:=y) h d
 have hZ:=lO (y:=z) h d
 have hW:=lO (y:=w) h d
 have e4:=Gs hY d;have e5:=λn en=>afN hZ d n en (by rw[hzo];exact hl)
 have e6:=afO hW d u.o;rw[nQ d] at e4 e6;simp only[nQ d] at e5;have QW:=hY.i;have hZi:=hZ.i;have hWi:=hW.i;have g0:∀S,bu (b.Gv u) (.int 0) S = .ok (.int (b.V2 u)) S:=λ_=>rfl
 have g6:∀S,bu (b.Gv u) (.int 6) S = .ok (.bl (o8 b.r b.rp)) S:=λ_=>rfl
 have g4:∀S,bu (b.Gv u) (.int 4) S = .ok (.bl (sr b.k)) S:=λ_=>rfl
 have gu:∀S,bu u.t (.int 0) S = .ok (.int u.o) S:=λ_=>rfl
 have gw:∀S,bu b.t (.int 4) S = .ok (.str b.w) S:=λ_=>rfl
 have ge:∀S,bu b.t (.int 6) S = .ok (.str b.en) S:=λ_=>rfl
 rw[hp];unfold jz at hi e3 QW hZi hWi;dsimp only at e3
 rw[<-hy] at e3;clear hp hzo hY hZ hW hy hl
 unfold IU;generalize x.out b=o at *
 generalize b.Gv u=sT at *
 generalize u.t=uT at *
 generalize b.t=bT at *
 generalize b.V2 u=gt at *
 generalize hI1:cH (mB (ai bu (aa 3) (mC (.int 6)))) _ _=I1
 generalize hI2:cH (mB (ai (cC true) (aa 4) (mC (.str "")))) _ _=I2
 generalize hI3:cH (mB (ai bu (aa 3) (mC (.int 4)))) _ _=I3
 have k1:I1 [some (.hd c.i),some uT,some bT,some sT,some (.str o)] (kL S y c) = .nx [some (.hd c.i),some uT,some bT,some sT,some (.str o)] (kL S z c):=by
  rw[<-hI1,hz];cases hcr:o8 b.r b.rp<;>rw[hcr] at g6<;>simp?[fx,↓g6,QW,e4]
 have k2:I2 [some (.hd c.i),some uT,some bT,some sT,some (.str o)] (kL S z c) = .nx [some (.hd c.i),some uT,some bT,some sT,some (.str o)] (kL S w c):=by
  rw[<-hI2,hw];by_cases ho:o=""
  ·simp?[fx,ho]
  ·by_cases hr:b.w="run"
   ·rw[hr] at gw
    simp?[fx,ho,hr,↓gw,↓ge,hZi,e5]
   ·simp?[fx,ho,hr,↓gw,hZi,e5]
 have k3:I3 [some (.hd c.i),some uT,some bT,some sT,some (.str o)] (kL S w c) = .nx [some (.hd c.i),some uT,some bT,some sT,some (.str o)] (kL S (if sr b.k=true then w.yb u.o else w) c):=by
  rw[<-hI3];cases hf:sr b.k<;>rw[hf] at g4<;>simp?[fx,↓g4,↓gu,hWi,e6]
 generalize kL S (if sr b.k=true then w.yb u.o else w) c=SF at *
 simp?[fx,e1,e2,hi,↓g0,e3,k1,k2,k3]
end
inductive gW where
 |cW (t f o b:Str)|kO (b:B)|sN (n:Str)|qv (n:Str)|qw (n:Str)|swap (a b:Str)|fR|g_|mw
def gW.t:gW->Tr
 |.cW t f o b=>.tp [.str "start",.str t,.str f,.str o,.str b]
 |.kO b=>b.t
 |.sN n=>.tp [.str "in",.str n]
 |.qv n=>.tp [.str "bowl",.str n]
 |.qw n=>.tp [.str "hurt",.str n]
 |.swap a b=>.tp [.str "swap",.str a,.str b]
 |.fR=>.tp [.str "declare"]
 |.g_=>.tp [.str "follow"]
 |.mw=>.tp [.str "close"]
noncomputable def oH (l:List Str):Tr:=.ls (l.map .str)
def I.i_ (x:I)(b:B):Option Str:=if x.R6=true then some "empty" else if x.wR="" then some "bowler" else match b.zM with|some f=>some f|none=>if b.w="run" /\ x.dB b.ZW=false then some "who" else none
def I.Ed (x:I)(Gu:List Str)(n:Str):Option Str:=if x.R6=false then some "full" else if n∉Gu then some "team" else if n∈x.outs then some "out" else if x.dB n=true then some "there" else none
def I.qy (x:I)(QX:List Str)(sp:Int)(n:Str):Option Str:=if x.wR ≠ "" then some "bowling" else if n∉QX then some "team" else if n=x.ZU then some "twice" else if 0<sp/\sp<=jr x.gS n then some "spell" else none
def I.nA (x:I)(u:U)(Gu QX:List Str):gW->Option Str
 |.kO b=>x.i_ b
 |.sN n=>x.Ed Gu n
 |.qv n=>x.qy QX u.s n
 |.qw n=>if x.dB n=true then none else some "who"
 |_=>none
theorem Ef {α:Type}(f:α -> Bool):∀l:List α,rQ (l.map λa=>.bl (f a))=some (l.map f)
 |[]=>rfl
 |a::r=>by rw[oh];unfold rQ;rw[Ef f r];rfl
theorem kQ {α:Type}(f:α -> Int):∀l:List α,mY (l.map λa=>.int (f a))=some (l.map f)
 |[]=>rfl
 |a::r=>by rw[oh];unfold mY;rw[kQ f r];rfl
section
variable {S:Cs}{x:I}{c:L3}
theorem K2 (h:g9 S x c)(b:B):IL [.hd c.i,b.t] S = .ok (dG (x.i_ b)) S:=by
 unfold IL I.i_;have e1:=QS h;have e2:=V1 b S;have e3:=λn=>kN h n
 have hi:=h.i;unfold jz at hi;cases hg:x.R6
 ·by_cases hb:x.wR=""
  ·simp?[fx,hi,e1,hg,hb,dG]
  ·cases hf:b.zM with
   |some f=>unfold B.t at *;simp?[fx,hi,e1,hg,hb,e2,hf,dG]
   |none =>
    by_cases hr:b.w="run"
    ·unfold B.t at *
     rw[hr] at e2;cases hs:x.dB b.ZW<;>simp?[fx,hi,e1,hg,hb,e2,hf,dG,hr,e3,hs]
    ·unfold B.t at *;simp?[fx,hi,e1,hg,hb,e2,hf,dG,hr]
 ·simp?[fx,hi,e1,hg,dG]
theorem V7 (h:g9 S x c)(Gu:List Str)(n:Str):IM [.hd c.i,oH Gu,.str n] S = .ok (dG (x.Ed Gu n)) S:=by
 unfold IM I.Ed oH;have e1:=QS h;have e3:=λn=>kN h n
 have hi:=h.i;have ho:=h.o;unfold jz at hi;cases hg:x.R6
 ·simp?[fx,hi,e1,hg,dG]
 ·by_cases hb:n∈Gu
  ·by_cases hn:n∈x.outs
   ·simp?[fx,hi,ho,e1,hg,hb,hn,gm,bX,gj,kM,dG]
   ·cases hs:x.dB n<;>simp?[fx,hi,ho,e1,e3,hg,hb,hn,hs,gm,bX,gj,kM,dG]
  ·simp?[fx,hi,e1,hg,hb,gm,bX,gj,dG]
theorem K3 (h:g9 S x c)(QX:List Str)(sp:Int)(n:Str):IP [.hd c.i,oH QX,.int sp,.str n] S = .ok (dG (x.qy QX sp n)) S:=by
 unfold IP I.qy oH;have hi:=h.i;have hs:=h.s;unfold jz at hi;by_cases hw:x.wR=""
 ·by_cases hb:n∈QX
  ·by_cases ha:n=x.ZU
   ·subst ha;simp?[fx,hi,hw,hb,gm,bX,gj,dG,ne_eq]
   ·by_cases h0:0<sp
    ·by_cases h1:sp<=jr x.gS n<;>simp?[fx,hi,hs,hw,hb,ha,h0,h1,gm,bX,gj,tw,dG,ne_eq]
    ·simp?[fx,hi,hs,hw,hb,ha,h0,gm,bX,gj,tw,dG,ne_eq]
  ·simp?[fx,hi,hw,hb,gm,bX,gj,dG,ne_eq]
 ·simp?[fx,hi,hw,dG,ne_eq]
noncomputable def gW.zP:gW->Bool|.kO _=>true|.sN _=>true|.qv _=>true|.qw _=>true|.fR=>true|_=>false
theorem QY (h:g9 S x c)(u:U)(Gu QX:List Str)(e:gW)(he:e.zP=true):IQ [.hd c.i,u.t,oH Gu,oH QX,e.t] S = .ok (dG (x.nA u Gu QX e)) S:=by
 unfold IQ;have e1:=λb=>K2 h b
 have e2:=λn=>V7 h Gu n
 have e3:=λsp n=>K3 h QX sp n
 have e4:=λn=>kN h n
 have hi:=h.i;unfold jz at hi;cases e with
 |kO b =>
  have e1:=e1 b;unfold gW.t I.nA;generalize dG (x.i_ b)=z at *
  unfold B.t at *
  simp?[fx,e1]
 |sN n =>
  have e2:=e2 n;unfold gW.t I.nA;simp?[fx,e2]
 |qv n =>
  have e3:=λsp=>e3 sp n
  unfold gW.t I.nA U.t;simp?[fx,e3]
 |qw n =>
  have e4:=e4 n;unfold gW.t I.nA;cases hs:x.dB n<;>simp?[fx,hi,e4,hs,dG]
 |fR=>unfold gW.t I.nA;simp?[fx,dG]
 |cW _ _ _ _=>cases he
 |swap _ _=>cases he
 |g_=>cases he
 |mw=>cases he
theorem afR (h:g9 S x c)(ps:List Str)(hl:ps.length<=1000):VQ [.hd c.i,oH ps] S = .ok (.bl (x.left ps)) S:=by
 unfold VQ oH;have e3:=λn=>kN h n
 have hi:=h.i;have ho:=h.o;unfold jz at hi;have hz:(ps.length<=sizeLine)=True:=bK (by omega)
 simp only[CG,gG,aE,bN,af,fD,qX,aa,ak,iL,w9,R.dY,R.gE,iN,oh,Ii,zbY,BI,zas,zbm,Nat.reduceAdd,Nat.reduceSub,zcu,zaD,zaX,zaL,Option.join,zcr,id_eq,zax];rw[qZ [] (λτ=>∃v,τ=[some (.hd c.i),v]) (λt=>match t with|.str n=>.bl (!decide (n∈x.outs) && !x.dB n)|_=>.bq) (λ_=>true) (ps.map .str) _ [] ⟨_,rfl⟩ ?_ (by simp;omega)]
 ·have e:((ps.map Tr.str).filter (λ_=>true)).map (λt=>match t with|.str n=>(.bl (!decide (n∈x.outs) && !x.dB n):Tr)|_=>.bq)=ps.map λn=>.bl (!decide (n∈x.outs) && !x.dB n):=by
   rw[zbX.mpr (λ_ _=>rfl),zaI];rfl
  rw[BI,e];simp only[R.dY,Uj,Ez,Ef,R.gE,uG,zad,hz,ite_true];unfold I.left;rw[zdh];rfl
 ·rintro t ht τ ⟨v,rfl⟩
  obtain⟨n,hn,rfl⟩:=zba.mp ht;refine⟨[some (.hd c.i),some (.str n)],⟨_,rfl⟩,rfl,rfl,λ_=>?_⟩
  by_cases hno:n∈x.outs
  ·simp?[fx,hi,ho,kM,hno,zdJ]
  ·cases hs:x.dB n<;>simp?[fx,hi,ho,kM,hno,e3,hs,zds]
end
noncomputable def lP (c:L3):List Nat:=[c.i,c.o,c.s]
def fp (y:Ly):List Nat:=y.a::y.k::y.p::y.l::y.cs.flatMap lP
def mF (m:M)(y:Ly):List (Str×Tr):=[("rules",m.ru.t),("sides",cR m.t0 m.t1 m.p0 m.p1),("known",.hd y.k),("played",.hd y.p),("followed",.bl m.ZV),("closed",.bl m.clo),("balls_told",.hd y.l)]
structure eS (S:Cs) (m:M) (y:Ly):Prop where
 a:S[y.a]? = some (.fH "Match" (mF m y))
 k:S[y.k]? = some (.bD (m.kn.map .str))
 p:S[y.p]? = some (.bD (y.cs.map λc=>.hd c.i))
 l:S[y.l]? = some (.bD m.fN)
 len:y.cs.length=m.pl.length
 sN:∀(j:Nat) x c,m.pl[j]? = some x->y.cs[j]? = some c->g9 S x c
 nd:(fp y).Nodup
noncomputable def fX (m:M):Option I:=match m.pl.getLast? with|some x=>if x.en="" then some x else none|none=>none
noncomputable def V8 (m:M)(s:Int):Int:=((m.pl.filter λx=>decide (x.bW=s)).map (·.fM)).sum
def wU (m:M)(s:Int):Int:=V8 m s - V8 m (1 - s)
noncomputable def f_ (m:M):Int:=match m.pl.getLast? with|some x=>x.bW|none=>0
def oJ (m:M):Bool:=if m.clo=true then true else if (fX m).isSome=true then false else if m.pl.length=3/\2 * m.ru.i=4 then decide (wU m (f_ m)<0) else decide (2 * m.ru.i<=m.pl.length)
theorem jt {m:M}{y:Ly}(hl:y.cs.length=m.pl.length):(m.pl=[]/\y.cs=[])\/∃fW x ci c,m.pl=fW++[x]/\y.cs=ci++[c]/\ci.length=fW.length:=by
 rcases zci m.pl with h|⟨fW,x,h⟩
 ·exact .inl ⟨h,by rw[h] at hl;simpa using hl⟩
 ·rcases zci y.cs with h2|⟨ci,c,h2⟩
  ·rw[h,h2] at hl;simp at hl
  ·refine .inr ⟨fW,x,ci,c,by simpa using h,by simpa using h2,?_⟩
   rw[h,h2] at hl;simpa using hl
theorem kR {α:Type}(l:List α)(a:α):jG (l++[a]) (-1)=some a:=by
 unfold jG SY;rw[if_neg (by decide),zan,zbj]
 rw[if_pos (by omega)]
 simp only[zcr];rw[show ((-1:Int)+((l.length+1:Nat):Int)).toNat=l.length by omega]
 simp
theorem cS {α:Type}(l:List α)(a:α):(l++[a])[l.length]? = some a:=by simp
section
variable {S:Cs}{m:M}{y:Ly}
theorem eS.rB (h:eS S m y)(e1:m.pl=fW++[x])(e2:y.cs=ci++[c])(e3:ci.length=fW.length):g9 S x c:=h.sN fW.length x c (by rw[e1,cS]) (by rw[e2,<-e3,cS])
theorem ZY {α β:Type}{f:α -> List β}:∀{l:List α},(l.flatMap f).Nodup->∀c∈l,(f c).Nodup
 |[],_,c,h=>absurd h (by simp)
 |a::r,h,c,hc=>by
  rw[zee] at h;have h':=zcm.mp h;rcases zam.mp hc with rfl|hc
  ·exact h'.1
  ·exact ZY h'.2.1 c hc
theorem Eg (h:(fp y).Nodup)(hc:c∈y.cs):Dj c/\c.i≠y.a/\c.i≠y.k/\c.i≠y.p/\c.i≠y.l/\c.o≠y.a/\c.o≠y.k/\c.o≠y.p/\c.o≠y.l/\c.s≠y.a/\c.s≠y.k/\c.s≠y.p/\c.s≠y.l:=by
 unfold fp at h;simp only[zbE,zam,zby,not_or,not_exists,not_and] at h;obtain⟨⟨_,_,_,ha⟩,⟨_,_,hk⟩,⟨_,hp⟩,hl,hn⟩:=h
 have q:∀n∈lP c,n≠y.a/\n≠y.k/\n≠y.p/\n≠y.l:=λn hn=>⟨λz=>ha c hc (z ▸ hn),λz=>hk c hc (z ▸ hn),λz=>hp c hc (z ▸ hn),λz=>hl c hc (z ▸ hn)⟩
 have d:(lP c).Nodup:=by
  exact ZY hn c hc
 unfold lP at d q;simp only[zbE,zam,zav,or_false,not_or] at d;obtain⟨a1,a2,a3,a4⟩:=q c.i (by simp)
 obtain⟨b1,b2,b3,b4⟩:=q c.o (by simp)
 obtain⟨c1,c2,c3,c4⟩:=q c.s (by simp)
 exact⟨⟨d.1.1,d.1.2,d.2.1⟩,a1,a2,a3,a4,b1,b2,b3,b4,c1,c2,c3,c4⟩
noncomputable def QZ (m:M)(y:Ly):Tr:=match m.pl.getLast?,y.cs.getLast? with|some x,some c=>if x.en="" then .hd c.i else .bq|_,_=>.bq
theorem fS (h:eS S m y)(hs:m.pl.length<=1000):jq [.hd y.a] S = .ok (QZ m y) S:=by
 unfold jq QZ;have ha:=h.a;have hp:=h.p;have hz:(m.pl.length<=sizeLine)=True:=bK (by omega)
 unfold mF at ha;rcases jt h.len with⟨e1,e2⟩|⟨fW,x,ci,c,e1,e2,e3⟩
 ·rw[e1,e2]
  rw[e2] at hp;simp?[fx,ha,hp,List.getLast?_nil]
 ·have hi:=(h.rB e1 e2 e3).i
  rw[e1,e2];rw[e2,zaG,oh,Ii] at hp;have hz:(ci.length+1<=sizeLine)=True:=bK (by rw[e1] at hs;simp at hs;omega)
  unfold jz at hi;have hn:¬ ((ci.length:Int)+1=0):=by omega
  by_cases he:x.en="" <;> simp?[fx,ha,hp,hi,he,hz,kR,List.getLast?_append,List.getLast?_singleton,Option.some_or,zan,zad,zbR,zcj,hn,Int.ofNat_one]
end
structure Sz (m:M) (n:Nat):Prop where
 pl:m.pl.length<=n
 kn:m.kn.length<=n
 fN:m.fN.length<=n
 p0:m.p0.length<=11
 p1:m.p1.length<=11
 outs:∀x∈m.pl,x.outs.length<=n
 gS:∀x∈m.pl,x.gS.length<=n
 bW:∀x∈m.pl,x.bW=0\/x.bW=1
noncomputable def mH (m:M)(s:Int):Str:=if s=0 then m.t0 else m.t1
noncomputable def iG (m:M)(s:Int):List Str:=if s=0 then m.p0 else m.p1
theorem ju {m:M}{s:Int}(h:s=0\/s=1):jG [Tr.tp [.str m.t0,.ls (m.p0.map .str)],Tr.tp [.str m.t1,.ls (m.p1.map .str)]] s=some (.tp [.str (mH m s),.ls ((iG m s).map .str)]):=by rcases h with rfl|rfl<;>rfl
theorem Jm {m:M}{s:Int}(h:s=0\/s=1):jG [Tr.tp [.str m.t0,.ls (m.p0.map .str)],Tr.tp [.str m.t1,.ls (m.p1.map .str)]] (1 - s)=some (.tp [.str (mH m (1 - s)),.ls ((iG m (1 - s)).map .str)]):=by rcases h with rfl|rfl<;>rfl
def mz (m:M):Option Int:=if m.pl=[] then none else if (fX m).isSome=true then none else if oJ m=true then none else if m.ZV=true/\m.pl.length=2 then some (f_ m) else some (1 - f_ m)
noncomputable def mJ:Option Int->Tr|none=>.bq|some i=>.int i
theorem afS:sL 0 2=[.int 0,.int 1]:=rfl
def Br (m:M)(t:Str):Option Int:=if m.t0=t/\(m.pl=[]\/mz m=some 0) then some 0 else if m.t1=t/\(m.pl=[]\/mz m=some 1) then some 1 else none
def jv (m:M)(t f o b:Str):Option Str:=if (fX m).isSome=true then some "going" else match Br m t with
 |none=>some "turn"
 |some s=>if f∉iG m s\/o∉iG m s\/b∉iG m (1 - s) then some "team" else if f=o then some "alike" else none
theorem tD {m:M}{y:Ly}{fW:List I}{x:I}{ci:List L3}{c:L3}(e1:m.pl=fW++[x])(e2:y.cs=ci++[c]):QZ m y=if x.en="" then .hd c.i else .bq:=by
 unfold QZ;rw[e1,e2];simp
theorem qz {m:M}{fW:List I}{x:I}(e1:m.pl=fW++[x]):fX m=if x.en="" then some x else none:=by
 unfold fX;rw[e1];simp
theorem gb {m:M}{y:Ly}(hl:y.cs.length=m.pl.length)(h:(fX m).isSome=false):QZ m y = .bq:=by
 rcases jt hl with⟨e1,e2⟩|⟨fW,x,ci,c,e1,e2,e3⟩
 ·unfold QZ;rw[e1,e2];rfl
 ·rw[tD e1 e2]
  rw[qz e1] at h;split
  ·rename_i q;rw[if_pos q] at h;cases h
  ·rfl
theorem fO {m:M}{y:Ly}(hl:y.cs.length=m.pl.length)(h:(fX m).isSome=true):∃(fW:List I) (x:I) (ci:List L3) (c:L3),m.pl=fW++[x]/\y.cs=ci++[c]/\ci.length=fW.length/\x.en=("":Str)/\QZ m y = .hd c.i/\fX m=some x:=by
 rcases jt hl with⟨e1,e2⟩|⟨fW,x,ci,c,e1,e2,e3⟩
 ·unfold fX at h;rw[e1] at h;cases h
 ·have hx:x.en="" := by
   rw[qz e1] at h;by_cases q:x.en=""
   ·exact q
   ·rw[if_neg q] at h;cases h
  exact⟨fW,x,ci,c,e1,e2,e3,hx,by rw[tD e1 e2,if_pos hx],by rw[qz e1,if_pos hx]⟩
section
variable {S:Cs}{m:M}{y:Ly}{n:Nat}
theorem Gw (h:eS S m y):wO [.hd y.a] S = .ok (.int (2 * m.ru.i)) S:=by
 unfold wO;have ha:=h.a;unfold mF U.t at ha;simp?[fx,ha]
theorem V9 (h:eS S m y)(s:Int)(hs:m.pl.length<=1000):DS [.hd y.a,.int s] S = .ok (.int (V8 m s)) S:=by
 unfold DS;refine pX (S1:=S) (t:=.int (V8 m s)) ?_ (zbZ ..) (by unfold CF;simp only[AL];rfl)
 have ha:=h.a;have hp:=h.p;unfold mF at ha;have hz:∀k:Nat,k<=1000->(k<=sizeLine)=True:=λk hk=>bK (by omega)
 rw[<-HY (l:=m.pl) (λc:L3=>Tr.hd c.i) h.len] at hp
 simp only[CG,gG,aE,bN,af,fD,qX,aa,ak,bw,Ke,iT,iL,w9,cK,R.dY,R.gE,iN,oh,Ii,zbY,BI,zas,zbm,Nat.reduceAdd,Nat.reduceSub,zcu,zaD,zaX,zaL,Option.join,zcr,id_eq,zax,ha,hp,fx,aiJ,if_true];rw[cI (by rw[hp]) (λτ=>∃v,τ=[some (.int s),v]) (λp:I×L3=>Tr.hd p.2.i) (λp=>.int p.1.fM) (λp=>decide (p.1.bW=s)) _ _ [] ⟨_,rfl⟩ ?_ (by
  rw[zbm,List.length_zip,h.len];omega)]
 ·rw[BI,FP (λx:I=>decide (x.bW=s)) (λx=>Tr.int x.fM) h.len]
  simp only[R.dY,Cz,w9,kQ,R.gE,uG];rfl
 ·rintro⟨x,c⟩ hxc τ ⟨v,rfl⟩
  obtain⟨j,h1,h2⟩:=N8 hxc;have hi:=(h.sN j x c h1 h2).i
  unfold jz at hi;refine⟨[some (.int s),some (.hd c.i)],⟨_,rfl⟩,rfl,?_,λ_=>?_⟩<;>simp?[fx,hi]
theorem Gy (h:eS S m y)(s:Int)(hs:m.pl.length<=1000):zK [.hd y.a,.int s] S = .ok (.int (wU m s)) S:=by
 unfold zK wU;have e1:=λs=>V9 h s hs
 have ha:=h.a;unfold mF at ha;simp?[fx,ha,e1,cY]
theorem Gz (h:eS S m y)(z:Sz m n)(hn:n<=1000):DT [.hd y.a] S = .ok (.bl (oJ m)) S:=by
 unfold DT oJ;have hs:m.pl.length<=1000:=zah z.pl hn
 have e1:=fS h hs;have e2:=Gw h;have e3:=λs=>Gy h s hs
 have ha:=h.a;have hp:=h.p;have hz:(y.cs.length<=sizeLine)=True:=bK (by rw[h.len];omega)
 unfold mF at ha;cases hc:m.clo
 ·cases hg:(fX m).isSome
  ·have eg:=gb h.len hg
   by_cases h3:m.pl.length=3
   ·have h3':((y.cs.length:Int)=3)=True:=eq_true (by rw[h.len,h3];rfl)
    by_cases h4:2 * m.ru.i=4
    ·rcases jt h.len with⟨a1,_⟩|⟨fW,x,ci,c,a1,a2,a3⟩
     ·rw[a1] at h3;cases h3
     ·have hi:=(h.rB a1 a2 a3).i
      unfold jz at hi;have hl:f_ m=x.bW:=by unfold f_;rw[a1];simp
      have h5:((ci.length:Int)+1=3)=True:=eq_true (by rw[a2,zan,zbj] at h3';have:=of_eq_true h3';omega)
      have MP:(ci.length+1<=sizeLine)=True:=by rw[a2,zan,zbj] at hz;exact hz
      rw[a2,zaG,oh,Ii] at hp;simp?[fx,ha,hp,hi,hc,e1,eg,e2,e3,h4,h3,hl,MP,h5,zan,zad,kR,cY,zbR,zcj,W7,LO]
    ·have h4':¬ (2 * m.ru.i=4):=h4
     simp?[fx,ha,hp,hc,e1,eg,e2,h3,h4',hz,h3',zad,cY,gGe,LO];simp only[h.len,h3];rfl
   ·have h3':((y.cs.length:Int)=3)=False:=eq_false (by rw[h.len];omega)
    simp?[fx,ha,hp,hc,e1,eg,e2,h3,hz,h3',zad,cY,gGe,LO];simp only[h.len]
  ·obtain⟨fW,x,ci,c,a1,a2,a3,a4,a5,a6⟩:=fO h.len hg
   simp?[fx,ha,hc,e1,a5]
 ·simp?[fx,ha,hc]
theorem Q0 (h:eS S m y)(z:Sz m n)(hn:n<=1000):DU [.hd y.a] S = .ok (mJ (mz m)) S:=by
 unfold DU mz;have hs:m.pl.length<=1000:=zah z.pl hn
 have e1:=fS h hs;have e2:=Gz h z hn;have ha:=h.a;have hp:=h.p;have hz:(y.cs.length<=sizeLine)=True:=bK (by rw[h.len];omega)
 unfold mF at ha;rcases jt h.len with⟨a1,a2⟩|⟨fW,x,ci,c,a1,a2,a3⟩
 ·rw[a2] at hp
  simp?[fx,ha,hp,a1,mJ]
 ·have o_:¬ m.pl=[]:=by rw[a1];simp
  have hi:=(h.rB a1 a2 a3).i
  unfold jz at hi;have hl:f_ m=x.bW:=by unfold f_;rw[a1];simp
  have MP:(ci.length+1<=sizeLine)=True:=by rw[a2,zan,zbj] at hz;exact hz
  have h0:¬ ((ci.length:Int)+1=0):=by omega
  rw[a2,zaG,oh,Ii] at hp;cases hg:(fX m).isSome
  ·have eg:=gb h.len hg
   cases hd:oJ m
   ·cases hf:m.ZV
    ·simp?[fx,ha,hp,hi,o_,e1,eg,e2,hd,hf,hl,MP,h0,zan,zad,kR,cY,zbR,zcj,mJ]
    ·by_cases h2:m.pl.length=2
     ·have h5:((ci.length:Int)+1=2)=True:=eq_true (by rw[a1,zan,zbj,<-a3] at h2;omega)
      simp?[fx,ha,hp,hi,o_,e1,eg,e2,hd,hf,hl,MP,h0,h2,h5,zan,zad,kR,cY,zbR,zcj,mJ]
     ·have h5:((ci.length:Int)+1=2)=False:=eq_false (by rw[a1,zan,zbj,<-a3] at h2;omega)
      simp?[fx,ha,hp,hi,o_,e1,eg,e2,hd,hf,hl,MP,h0,h2,h5,zan,zad,kR,cY,zbR,zcj,mJ]
   ·simp?[fx,ha,hp,o_,e1,eg,e2,hd,MP,h0,zan,zad,zbR,zcj,mJ]
  ·obtain⟨fW,x,ci,c,b1,b2,b3,b4,b5,b6⟩:=fO h.len hg
   simp?[fx,ha,hp,o_,e1,b5,MP,h0,zan,zad,zbR,zcj,mJ]
theorem ZZ (h:eS S m y)(z:Sz m n)(hn:n<=1000)(t:Str):DW [.hd y.a,.str t] S = .ok (mJ (Br m t)) S:=by
 have e1:=Q0 h z hn;have ha:=h.a;have hp:=h.p;have hs:m.pl.length<=1000:=zah z.pl hn
 have hz:(y.cs.length<=sizeLine)=True:=bK (by rw[h.len];omega)
 have h0:((y.cs.length:Int)=0)=(m.pl=[]):=by
  apply propext
  rw[h.len];constructor
  ·intro q;exact zez.mp (by omega)
  ·intro q;rw[q];rfl
 unfold DW Br;generalize hT:nX _ _=T
 have key:∀s:Int,s=0\/s=1->T [some (.hd y.a),some (.str t),some (.int s)] S = .ok (decide (mH m s=t/\(m.pl=[]\/mz m=some s))) S:=λs s01=>by
  have k5:=@ju m s s01
  unfold mF cR at ha;subst hT;generalize mH m s=tt at *
  by_cases h1:tt=t
  ·by_cases h3:m.pl=[]
   ·simp?[fx,ha,hp,h0,h1,h3,hz,k5,zad]
   ·cases hN:mz m with
    |none =>
     rw[hN] at e1;simp?[fx,ha,hp,h0,h1,h3,hz,k5,zad,e1,mJ]
    |some j =>
     rw[hN] at e1;simp?[fx,ha,hp,h0,h1,h3,hz,k5,zad,e1,mJ,zbU,eq_comm,false_or,true_and]
  ·simp?[fx,ha,h1,k5]
 have t0:mH m 0=m.t0:=rfl
 have t1:mH m 1=m.t1:=rfl
 have a0:=key 0 (.inl rfl)
 have a1:=key 1 (.inr rfl)
 rw[t0] at a0;rw[t1] at a1;clear key
 by_cases c0:m.t0=t/\(m.pl=[]\/mz m=some 0)
 ·rw[decide_eq_true c0] at a0
  rw[if_pos c0];simp?[afS,a0,mJ]
 ·rw[decide_eq_false c0] at a0
  rw[if_neg c0];by_cases c1:m.t1=t/\(m.pl=[]\/mz m=some 1)
  ·rw[decide_eq_true c1] at a1
   rw[if_pos c1];simp?[afS,a0,a1,mJ]
  ·rw[decide_eq_false c1] at a1
   rw[if_neg c1];simp?[afS,a0,a1,mJ]
theorem Z0 (e:Br m t=some s):s=0\/s=1:=by
 unfold Br at e;split at e
 ·cases e;exact .inl rfl
 ·split at e
  ·cases e;exact .inr rfl
  ·cases e
theorem GA (h:eS S m y)(z:Sz m n)(hn:n<=1000)(t f o b:Str):IB [.hd y.a,(gW.cW t f o b).t] S = .ok (dG (jv m t f o b)) S:=by
 unfold IB jv gW.t;have hs:m.pl.length<=1000:=zah z.pl hn
 have e1:=fS h hs;have e2:=ZZ h z hn t;have ha:=h.a;unfold mF cR at ha;cases hg:(fX m).isSome
 ·have eg:=gb h.len hg
  cases hs:Br m t with
  |none=>rw[hs] at e2;simp?[fx,ha,e1,eg,e2,mJ,dG]
  |some s =>
   rw[hs] at e2;have akM:=Z0 hs;have k1:=@ju m s akM
   have k2:=@Jm m s akM
   by_cases h1:f∈iG m s<;>by_cases h2:o∈iG m s<;>by_cases h3:b∈iG m (1 - s)<;>by_cases h4:f=o <;>
    simp?[fx,ha,e1,eg,e2,mJ,dG,k1,k2,cY,gm,bX,gj,h1,h2,h3,h4]
 ·obtain⟨fW,x,ci,c,b1,b2,b3,b4,b5,b6⟩:=fO h.len hg
  simp?[fx,ha,e1,b5,dG]
def d7 (m:M)(e:gW):Option Str:=match fX m with
 |none=>some "none"
 |some x=>x.nA m.ru (iG m x.bW) (iG m (1 - x.bW)) e
theorem V_ (e:gW)(he:e.zP=true):∃w l,e.t = .tp (.str w::l)/\¬ w="start" /\ ¬ w="swap" /\ ¬ w="follow" /\ ¬ w="close" := by
 have h:∀w∈(["ball","in","bowl","hurt","declare"]:List Str),¬ w="start" /\ ¬ w="swap" /\ ¬ w="follow" /\ ¬ w="close" := by decide +kernel
 cases e<;>first | (cases he;done)|exact⟨_,_,rfl,h _ (by simp)⟩
theorem Eh (h:eS S m y)(z:Sz m n)(hn:n<=1000)(e:gW)(he:e.zP=true):sf [.hd y.a,e.t] S = .ok (dG (if oJ m=true then some "done" else d7 m e)) S:=by
 unfold sf;have hs:m.pl.length<=1000:=zah z.pl hn
 have e1:=fS h hs;have e2:=Gz h z hn;have ha:=h.a;unfold mF cR at ha;obtain⟨w,l,el,w1,w2,w3,w4⟩:=V_ e he;cases hd:oJ m
 ·cases hg:(fX m).isSome
  ·have eg:=gb h.len hg
   have BH:d7 m e=some ("none":Str):=by
    unfold d7;cases hq:fX m with
    |none=>rfl
    |some x=>rw[hq] at hg;cases hg
   rw[el];simp?[fx,ha,e1,eg,e2,hd,BH,dG,w1,w2,w3,w4]
  ·obtain⟨fW,x,ci,c,b1,b2,b3,b4,b5,b6⟩:=fO h.len hg
   have hI:=h.rB b1 b2 b3;have hi:=hI.i;unfold jz at hi;have Wa:=z.bW x (by rw[b1];simp)
   have k1:=@ju m x.bW Wa
   have k2:=@Jm m x.bW Wa
   have e3:=QY hI m.ru (iG m x.bW) (iG m (1 - x.bW)) e he
   have BH:d7 m e=x.nA m.ru (iG m x.bW) (iG m (1 - x.bW)) e:=by unfold d7;rw[b6]
   rw[<-BH] at e3;unfold oH at e3;generalize d7 m e=r at *
   rw[el] at e3 ⊢
   simp?[fx,ha,hi,e1,b5,e2,hd,k1,k2,cY,e3,w1,w2,w3,w4]
 ·simp?[fx,ha,e2,hd,dG]
end
def bF (F:List Nat)(S S':Cs):Prop:=S.length<=S'.length/\∀j,j<S.length->j∉F->S'[j]? = S[j]?
theorem bF.refl:bF F S S:=⟨zaf _,λ_ _ _=>rfl⟩
theorem bF.trans (a:bF F S1 S2)(b:bF F S2 S3):bF F S1 S3:=⟨zah a.1 b.1,λj h1 h2=>(b.2 j (zap h1 a.1) h2).trans (a.2 j h1 h2)⟩
theorem bF.mono (a:bF F S S')(h:∀j∈F,j∈F'):bF F' S S':=⟨a.1,λj h1 h2=>a.2 j h1 λz=>h2 (h j z)⟩
theorem bF.at (a:bF F S S')(h:S[j]? = some c)(hj:j∉F):S'[j]? = some c:=by rw[a.2 j (bh h) hj];exact h
theorem bF.set (h:n∈F):bF F S (S.set n c):=⟨by simp,λj _ h2=>dz λz=>h2 (z ▸ h)⟩
theorem bF.sI:bF F S (S++r):=⟨by simp,λj h1 _=>zal h1⟩
theorem bF.kL (h:∀j∈lP c,j∈F):bF F S (kL S x c):=by
 unfold My.kL;exact ((bF.set (h _ (by simp[lP]))).trans (bF.set (h _ (by simp[lP])))).trans (bF.set (h _ (by simp[lP])))
theorem g9.only (a:bF F S S')(h:g9 S x c)(hF:∀j∈lP c,j∉F):g9 S' x c:=⟨a.at h.i (hF _ (by simp[lP])),a.at h.o (hF _ (by simp[lP])),a.at h.s (hF _ (by simp[lP]))⟩
theorem eS.only (a:bF F S S')(h:eS S m y)(hF:∀j∈fp y,j∉F):eS S' m y where
 a:=a.at h.a (hF _ (by simp[fp]))
 k:=a.at h.k (hF _ (by simp[fp]))
 p:=a.at h.p (hF _ (by simp[fp]))
 l:=a.at h.l (hF _ (by simp[fp]))
 len:=h.len
 sN:=λj x c h1 h2=>(h.sN j x c h1 h2).only a λn hn=>hF n (by
  unfold fp;simp only[zam,zby];exact .inr (.inr (.inr (.inr ⟨c,zaZ h2,hn⟩))))
 nd:=h.nd
theorem Bt {α β:Type}{f:α -> List β}:∀{l:List α} {j k:Nat} {a b:α},(l.flatMap f).Nodup->l[j]? = some a->l[k]? = some b->j≠k->∀n∈f a,n∉f b
 |[],j,k,a,b,_,h,_,_,_,_=>by simp at h
 |x::r,j,k,a,b,nd,h1,h2,ne,n,hn=>by
  rw[zee] at nd;have nd':=zcm.mp nd;intro hb;cases j with
  |zero =>
   cases k with
   |zero=>exact ne rfl
   |succ k =>
    simp only[zaX,zbU] at h1;simp only[zaL] at h2;subst h1;exact nd'.2.2 n hn n (zby.mpr ⟨b,zaZ h2,hb⟩) rfl
  |succ j =>
   simp only[zaL] at h1;cases k with
   |zero =>
    simp only[zaX,zbU] at h2;subst h2;exact nd'.2.2 n hb n (zby.mpr ⟨a,zaZ h1,hn⟩) rfl
   |succ k =>
    simp only[zaL] at h2;exact Bt nd'.2.1 h1 h2 (λz=>ne (by rw[z])) n hn hb
theorem Z1 (h:(fp y).Nodup):(y.cs.flatMap lP).Nodup:=by
 unfold fp at h;simp only[zbE] at h;exact h.2.2.2.2
noncomputable def M.lQ (m:M)(x:I):M:={m with pl:=m.pl.dropLast++[x]}
section
variable {S:Cs}{m:M}{y:Ly}{n:Nat}{fW:List I}{x x':I}{ci:List L3}{c:L3}
theorem eS.lQ (h:eS S m y)(e1:m.pl=fW++[x])(e2:y.cs=ci++[c])(e3:ci.length=fW.length):eS (kL S x' c) (m.lQ x') y:=by
 obtain⟨d,a1,a2,a3,a4,b1,b2,b3,b4,c1,c2,c3,c4⟩:=Eg h.nd (c:=c) (by rw[e2];simp)
 have hI:=h.rB e1 e2 e3;have on:bF (lP c) S (kL S x' c):=bF.kL λ_ h=>h
 have nm:∀j,j≠c.i->j≠c.o->j≠c.s->j∉lP c:=λj h1 h2 h3 q=>by simp[lP] at q;rcases q with q|q|q;exact h1 q;exact h2 q;exact h3 q
 have ep:(m.lQ x').pl=fW++[x']:=by unfold M.lQ;simp[e1]
 refine⟨on.at h.a (nm _ a1.symm b1.symm c1.symm),on.at h.k (nm _ a2.symm b2.symm c2.symm),on.at h.p (nm _ a3.symm b3.symm c3.symm),on.at h.l (nm _ a4.symm b4.symm c4.symm),?_,?_,h.nd⟩
 ·rw[ep,e2];simp[e3]
 ·intro j z cz h1 h2
  rw[ep] at h1;by_cases hj:j=fW.length
  ·subst hj
   rw[cS] at h1;rw[e2,<-e3,cS] at h2;cases h1;cases h2
   exact lO hI d
  ·have EG:j<fW.length:=by
    have:=(zae.mp h1).1
    simp at this
    omega
   rw[zal EG] at h1;refine (h.sN j z cz (by rw[e1,zal EG];exact h1) h2).only on (Bt (Z1 h.nd) h2 (k:=fW.length) (by rw[e2,<-e3,cS]) hj)
theorem afT (e1:m.pl=fW++[x])(z:I):(m.lQ z).pl=fW++[z]:=by unfold M.lQ;simp[e1]
theorem Sz.lQ (h:Sz m n)(e1:m.pl=fW++[x])(hs:x'.bW=x.bW)(h1:x'.outs.length<=n)(h2:x'.gS.length<=n):Sz (m.lQ x') n:=by
 have ep:=afT e1 x';have hm:∀z∈(m.lQ x').pl,z∈m.pl\/z=x':=λz hz=>by
  rw[ep] at hz;rcases zbt.mp hz with q|q
  ·exact .inl (by rw[e1];exact zcn _ q)
  ·exact .inr (by simpa using q)
 refine⟨?_,h.kn,h.fN,h.p0,h.p1,λz hz=>?_,λz hz=>?_,λz hz=>?_⟩
 ·rw[ep];have:=h.pl;rw[e1] at this;simpa using this
 ·rcases hm z hz with q|rfl
  ·exact h.outs z q
  ·exact h1
 ·rcases hm z hz with q|rfl
  ·exact h.gS z q
  ·exact h2
 ·rcases hm z hz with q|rfl
  ·exact h.bW z q
  ·rw[hs];exact h.bW x (by rw[e1];simp)
end
def iQ (m:M)(x:I)(b:B):Tr:=.tp [.int ((m.pl.length:Int) - 1),.int x.ov,.int x.ba,.str x.o7,.str x.rY,.str x.wR,b.t,.str (x.out b)]
def jw (m:M)(x:I):gW->M
 |.kO b=>{m.lQ (x.qu m.ru b) with fN:=m.fN++[iQ m x b]}
 |.sN n=>m.lQ (x.Eb n)
 |.qv n=>m.lQ (x.zN n)
 |.qw n=>m.lQ (x.gK n)
 |.fR=>m.lQ { x with en:= "declared" }
 |_=>m
def GB (m:M)(x:I):Str:=if (m.pl.length:Int)=2 * m.ru.i/\0<wU m x.bW then "won" else if x.R6=true/\x.left (iG m x.bW)=false then "out" else if 0<m.ru.v/\m.ru.v<=x.ov then "overs" else ""
def lR (m:M):M:=match fX m with|some x=>m.lQ {x with en:=GB m x} | none=>m
section
variable {S:Cs}{m:M}{y:Ly}{n:Nat}{fW:List I}{x x':I}{ci:List L3}{c:L3}
theorem Q2 (h:eS S m y)(z:Sz m n)(hn:n<=1000)(e1:m.pl=fW++[x])(e2:y.cs=ci++[c])(e3:ci.length=fW.length):I0 [.hd y.a,.hd c.i] S = .ok (.str (GB m x)) S:=by
 have hs:m.pl.length<=1000:=zah z.pl hn
 have hI:=h.rB e1 e2 e3;have k1:=Gw h;have k2:=Gy h x.bW hs;have k3:=QS hI;have Wa:=z.bW x (by rw[e1];simp)
 have k5:=@ju m x.bW Wa
 have hpl:(iG m x.bW).length<=1000:=by
  have:=z.p0;have:=z.p1
  unfold iG;split<;>omega
 have k4:=afR hI (iG m x.bW) hpl
 unfold oH at k4;have ha:=h.a;have hp:=h.p;have hi:=hI.i;have hz:(y.cs.length<=sizeLine)=True:=bK (by rw[h.len];omega)
 unfold mF cR at ha;unfold jz at hi;have cM:(y.cs.length:Int)=m.pl.length:=by rw[h.len]
 unfold I0 GB;generalize (m.pl.length:Int)=N at *
 generalize wU m x.bW=L at *
 generalize x.R6=G at *
 generalize x.left (iG m x.bW)=F at *
 generalize hT1:nX (mB (ai (cC false) _ _)) _=T1
 generalize hT2:nX (mB (aO _ _ _ _ _ _)) _=T2
 generalize hT3:mB (mW _ _ _ _ _)=T3
 have a1:T1 [some (.hd y.a),some (.hd c.i)] S = .ok (decide (N=2 * m.ru.i/\0<L)) S:=by
  subst hT1;by_cases h1:N=2 * m.ru.i<;>simp?[fx,ha,hp,hi,hz,k1,k2,cM,h1,zad,gGt,LO,true_and,false_and,decide_false]
 have a2:T2 [some (.hd y.a),some (.hd c.i)] S = .ok (decide (G=true/\F=false)) S:=by
  have eG:decide (G=true/\F=false)=(G && !F):=by cases G<;>cases F<;>rfl
  rw[eG];subst hT2;cases G<;>simp?[fx,ha,hi,k3,k4,k5,zds,zdJ]
 have a3:T3 [some (.hd y.a),some (.hd c.i)] S = .ok (decide (0<m.ru.v/\m.ru.v<=x.ov)) S:=by
  subst hT3;unfold U.t at ha;by_cases h1:0<m.ru.v<;>simp?[fx,ha,hi,h1,W7,gLe,LO,true_and,false_and,decide_false]
 clear hT1 hT2 hT3 ha hi hp k1 k2 k3 k4 k5
 by_cases q1:N=2 * m.ru.i/\0<L
 ·rw[decide_eq_true q1] at a1
  rw[if_pos q1];simp?[a1]
 ·rw[decide_eq_false q1] at a1
  rw[if_neg q1];by_cases q2:G=true/\F=false
  ·rw[decide_eq_true q2] at a2
   rw[if_pos q2];simp?[a1,a2]
  ·rw[decide_eq_false q2] at a2
   rw[if_neg q2];by_cases q3:0<m.ru.v/\m.ru.v<=x.ov
   ·rw[decide_eq_true q3] at a3
    rw[if_pos q3];simp?[a1,a2,a3]
   ·rw[decide_eq_false q3] at a3
    rw[if_neg q3];simp?[a1,a2,a3]
theorem Wb (h:(fp y).Nodup):y.a≠y.k/\y.a≠y.p/\y.a≠y.l/\y.k≠y.p/\y.k≠y.l/\y.p≠y.l:=by
 unfold fp at h;simp only[zbE,zam,not_or] at h;exact⟨h.1.1,h.1.2.1,h.1.2.2.1,h.2.1.1,h.2.1.2.1,h.2.2.1.1⟩
theorem eS.R8 (h:eS S m y)(on:bF [n] S S')(hn:∀c∈y.cs,n∉lP c):∀(j:Nat) x c,m.pl[j]? = some x->y.cs[j]? = some c->g9 S' x c:=λj x c h1 h2=>(h.sN j x c h1 h2).only on λk hk q=>by
 simp at q
 subst q;exact hn c (zaZ h2) hk
theorem Jo (h:(fp y).Nodup)(hk:k=y.a\/k=y.k\/k=y.p\/k=y.l):∀c∈y.cs,k∉lP c:=λc hc q=>by
 obtain⟨d,a1,a2,a3,a4,b1,b2,b3,b4,c1,c2,c3,c4⟩:=Eg h (c:=c) hc
 simp[lP] at q
 rcases hk with rfl|rfl|rfl|rfl<;>rcases q with q|q|q<;>first|exact a1 q.symm|exact a2 q.symm|exact a3 q.symm|exact a4 q.symm|exact b1 q.symm|exact b2 q.symm|exact b3 q.symm|exact b4 q.symm|exact c1 q.symm|exact c2 q.symm|exact c3 q.symm|exact c4 q.symm
theorem eS.aoA (h:eS S m y)(l:List Tr):eS (S.set y.l (.bD l)) {m with fN:=l} y:=by
 obtain⟨a1,a2,a3,a4,a5,a6⟩:=Wb h.nd;exact⟨by rw[dz a3.symm];exact h.a,by rw[dz a5.symm];exact h.k,by rw[dz a6.symm];exact h.p,cO (bh h.l),h.len,h.R8 (bF.set (by simp)) (Jo h.nd (.inr (.inr (.inr rfl)))),h.nd⟩
theorem Wc (h:eS S m y)(z:Sz m n)(hn:n<=1000)(e1:m.pl=fW++[x])(e2:y.cs=ci++[c])(e3:ci.length=fW.length)(hx:x.en="")(b:B):
  IV [.hd y.a,b.t] S = .ok .bq ((kL S (x.qu m.ru b) c).set y.l (.bD (m.fN++[iQ m x b]))):=by
 unfold IV iQ;have hs:m.pl.length<=1000:=zah z.pl hn
 have hI:=h.rB e1 e2 e3;have We:x∈m.pl:=by rw[e1];simp
 obtain⟨d,a1,a2,a3,a4,b1,b2,b3,b4,c1,c2,c3,c4⟩:=Eg h.nd (c:=c) (by rw[e2];simp)
 have k1:=fS h hs;rw[tD e1 e2,if_pos hx] at k1;have k2:=afQ hI d m.ru b (zah (z.outs x We) hn)
 have hM:=eS.lQ (x':=x.qu m.ru b) h e1 e2 e3
 have ha:=h.a;have hp:=h.p;have hi:=hI.i;have Tv:=hM.a;have RW:=hM.l;have An:(m.lQ (x.qu m.ru b)).fN=m.fN:=rfl
 rw[An] at RW;have hz:(y.cs.length<=sizeLine)=True:=bK (by rw[h.len];omega)
 have hz2:(m.fN.length<sizeLine)=True:=lF (by have:=z.fN;omega)
 have cM:(y.cs.length:Int)=m.pl.length:=by rw[h.len]
 unfold mF at ha Tv;unfold jz at hi;generalize (m.pl.length:Int)=N at *
 generalize x.out b=o at *
 generalize kL S (x.qu m.ru b) c=S1 at *
 unfold B.t at *
 simp?[fx,k1,ha,hp,hi,hz,cM,zad,cY,k2,Tv,RW,hz2]
end
noncomputable def Bu (s:Int)(f o b:Str):I:=⟨s,f,o,b,"",0,0,0,0,"",[],[(b,1)]⟩
noncomputable def jh (k:Nat):L3:=⟨k,k+1,k+2⟩
def GC (S:Cs)(s:Int)(f o b:Str):Cs:=S++[Ce.fH "Innings" (jz (Bu s f o b) (jh S.length)),Ce.iy [],Ce.iy [(Sum.inr b,Tr.int 1)]]
def K4 (S:Cs)(y:Ly)(s:Int)(f o b:Str):Cs:=(GC S s f o b).set y.p (.bD (y.cs.map (λc=>Tr.hd c.i)++[Tr.hd S.length]))
theorem Z2:(S++(a::r))[S.length]? = some a:=by simp
theorem sa0:(S++(a::r)).set S.length b=S++(b::r):=by
 rw[zcM _ _ (zaf _),zfA];rfl
theorem ga2:(S++(a::b::c::r))[S.length+2]? = some c:=by
 rw[zau (by omega),show S.length+2 - S.length=2 by omega];rfl
theorem sa2:(S++(a::b::c::r)).set (S.length+2) d=S++(a::b::d::r):=by
 rw[zcM _ _ (by omega),show S.length+2 - S.length=2 by omega];rfl
theorem akN (S:Cs)(s:Int)(f o b:Str):VJ [.hd S.length,.int s,.str f,.str o,.str b] (S++[.fH "Innings" []]) = .ok .bq (GC S s f o b):=by
 unfold VJ GC jz Bu jh;simp?[fx,Z2,sa0,ga2,sa2,fm,gy,zcI,zaT,List.foldl_nil,zfz]
section
variable {S:Cs}{m:M}{y:Ly}{n:Nat}{fW:List I}{x x':I}{ci:List L3}{c:L3}
theorem eS.lt (h:eS S m y):∀j∈fp y,j<S.length:=by
 intro j hj;unfold fp at hj;simp only[zam,zby] at hj;rcases hj with rfl|rfl|rfl|rfl|⟨c,hc,hj⟩
 ·exact bh h.a
 ·exact bh h.k
 ·exact bh h.p
 ·exact bh h.l
 ·obtain⟨k,hk⟩:=List.getElem?_of_mem hc
  have hk2:k<m.pl.length:=by rw[<-h.len];exact (zae.mp hk).1
  have hI:=h.sN k m.pl[k] c (zag hk2) hk
  simp[lP] at hj
  rcases hj with rfl|rfl|rfl
  ·exact bh hI.i
  ·exact bh hI.o
  ·exact bh hI.s
theorem eS.akO (h:eS S m y)(s:Int)(f o b:Str):eS (K4 S y s f o b) {m with pl:=m.pl++[Bu s f o b]} {y with cs:=y.cs++[jh S.length]}:=by
 have on:bF [y.p] S (K4 S y s f o b):=bF.trans bF.sI (bF.set (by simp))
 obtain⟨a1,a2,a3,a4,a5,a6⟩:=Wb h.nd;have jD:=h.lt;have hp:=jD y.p (by simp[fp])
 have ne:∀k,S.length<=k->y.p≠k:=λk hk z=>by omega
 refine⟨on.at h.a (by simp[a2]),on.at h.k (by simp[a4]),?_,on.at h.l (by simp[a6.symm]),by simp[h.len],?_,?_⟩
 ·unfold K4 GC
  rw[cO (by simp;omega)]
  simp[jh]
 ·intro j z cz h1 h2
  by_cases hj:j=m.pl.length
  ·subst hj
   have q1:(m.pl++[Bu s f o b])[m.pl.length]? = some (Bu s f o b):=cS _ _
   have q2:(y.cs++[jh S.length])[m.pl.length]? = some (jh S.length):=by rw[<-h.len];exact cS _ _
   simp only at h1 h2
   rw[q1] at h1;rw[q2] at h2;cases h1;cases h2
   unfold K4 GC;refine⟨?_,?_,?_⟩
   ·rw[dz (k:=(jh S.length).i) (ne _ (zaf _))]
    show (S++_)[S.length]? = _
    exact Z2
   ·rw[dz (k:=(jh S.length).o) (ne _ (by simp[jh]))]
    show (S++_)[S.length+1]? = _
    rw[zau (by omega),show S.length+1 - S.length=1 by omega]
    rfl
   ·rw[dz (k:=(jh S.length).s) (ne _ (by simp[jh]))]
    show (S++_)[S.length+2]? = _
    rw[zau (by omega),show S.length+2 - S.length=2 by omega]
    rfl
  ·have EG:j<m.pl.length:=by
    have:=(zae.mp h1).1
    simp at this
    omega
   simp only at h1 h2
   rw[zal EG] at h1;rw[zal (by rw[h.len];exact EG)] at h2
   exact h.R8 on (Jo h.nd (.inr (.inr (.inl rfl)))) j z cz h1 h2
 ·show (fp {y with cs:=y.cs++[jh S.length]}).Nodup
  have e:fp {y with cs:=y.cs++[jh S.length]}=fp y++[S.length,S.length+1,S.length+2]:=by
   unfold fp;simp[lP,jh]
  rw[e,zcm];refine⟨h.nd,by simp,λa ha b hb=>?_⟩
  have:=jD a ha
  simp at hb
  omega
theorem Wf (h:eS S m y)(z:Sz m n)(hn:n<=1000)(t f o b:Str)(s:Int)(hs:Br m t=some s):IS [.hd y.a,(gW.cW t f o b).t] S = .ok .bq (K4 S y s f o b):=by
 unfold IS gW.t;have e1:=ZZ h z hn t;rw[hs] at e1;have e2:=akN S s f o b;have ha:=h.a;have hp:=h.p;have on:bF [] S (GC S s f o b):=bF.sI
 have hp':=on.at h.p (by simp)
 have hz2:(y.cs.length<sizeLine)=True:=lF (by have:=z.pl;rw[h.len];omega)
 unfold mF at ha;unfold K4;generalize GC S s f o b=S1 at *
 simp?[fx,e1,mJ,ha,hp,e2,hp',zad,hz2]
theorem aoC (h:eS S m y)(z:Sz m n)(hn:n<=1000)(e1:m.pl=fW++[x])(e2:y.cs=ci++[c])(e3:ci.length=fW.length)(hx:x.en="")(e:gW)(he:e.zP=true):
  ∃S',wQ [.hd y.a,e.t] S = .ok .bq S'/\eS S' (jw m x e) y/\bF (fp y) S S':=by
 have hs:m.pl.length<=1000:=zah z.pl hn
 have hI:=h.rB e1 e2 e3;have We:x∈m.pl:=by rw[e1];simp
 obtain⟨d,_⟩:=Eg h.nd (c:=c) (by rw[e2];simp)
 have k1:=fS h hs;rw[tD e1 e2,if_pos hx] at k1;have ha:=h.a;have hi:=hI.i;have WY:=bh hI.i;have onc:∀x',bF (fp y) S (kL S x' c):=λx'=>bF.kL λj hj=>by
  unfold fp;simp only[zam,zby];exact .inr (.inr (.inr (.inr ⟨c,by rw[e2];simp,hj⟩)))
 unfold mF at ha;unfold jz at hi;unfold wQ;cases e with
 |kO b =>
  have k2:=Wc h z hn e1 e2 e3 hx b;refine⟨_,?_,(eS.lQ (x':=x.qu m.ru b) h e1 e2 e3).aoA (m.fN++[iQ m x b]),(onc _).trans (bF.set (by simp[fp]))⟩
  generalize iQ m x b=r at *
  unfold gW.t;unfold B.t at *
  simp?[fx,k1,ha,k2]
 |sN nm =>
  have k2:=afL hI d nm;refine⟨_,?_,eS.lQ (x':=x.Eb nm) h e1 e2 e3,onc _⟩
  unfold gW.t;simp?[fx,k1,ha,hi,k2]
 |qv nm =>
  have k2:=V6 hI d nm (zah (z.gS x We) hn)
  refine⟨_,?_,eS.lQ (x':=x.zN nm) h e1 e2 e3,onc _⟩
  unfold gW.t;simp?[fx,k1,ha,hi,k2]
 |qw nm =>
  have k2:=Jj hI d nm;refine⟨_,?_,eS.lQ (x':=x.gK nm) h e1 e2 e3,onc _⟩
  unfold gW.t;simp?[fx,k1,ha,hi,k2]
 |fR =>
  have k2:=mq (y:={ x with en:= "declared" }) hI d rfl rfl
  refine⟨_,?_,eS.lQ (x':={ x with en:= "declared" }) h e1 e2 e3,onc _⟩
  unfold gW.t;unfold jz at k2;simp?[fx,k1,ha,hi,k2]
 |cW _ _ _ _=>cases he
 |swap _ _=>cases he
 |g_=>cases he
 |mw=>cases he
noncomputable def Bv:Str:= "the rules don't let this entry: "
theorem wV:Bv.length=32:=by decide +kernel
theorem K5 (w:Str)(hw:w.length<=100)(e:Tr)(hm:S[y.a]? = some (.fH "Match" (mF m y)))(hr:sf [.hd y.a,e] S = .ok (.str w) S0):
  sj [.hd y.a,e] S = .ex S0.length (S0++[.xD "NotLet" [("rule",.str w),("number",.int 0)]]):=by
 unfold sj;unfold mF at hm;have h1:(w.length<=sizeLine)=True:=bK (by omega)
 have h2:((Str.empty++Bv).length<=sizeLine)=True:=bK (by
  rw[Str.length_append,wV];decide)
 have h3:((Str.empty++Bv++w).length<=sizeLine)=True:=bK (by
  rw[Str.length_append,Str.length_append,wV];have:Str.empty.length=0:=rfl
  omega)
 unfold Bv at h2 h3;simp?[fx,hm,hr,fJ,acq,h1,h2,h3]
theorem GD (h:eS S m y)(z:Sz m n)(e:Tr)(hr:sf [.hd y.a,e] S = .ok .bq S0)(h0:eS S0 m y)(hy:y1.a=y.a)(hd:wQ [.hd y.a,e] S0 = .ok .bq S1)(h1:eS S1 m1 y1)(z1:Sz m1 k)(hn:k<=1000):
  ∃S',sj [.hd y.a,e] S = .ok .bq S'/\eS S' (lR m1) y1/\bF (fp y1) S1 S':=by
 have ha:=h.a;have ha0:=h0.a;have ha1:=h1.a;have k1:=fS h1 (zah z1.pl hn)
 rw[hy] at ha1 k1;unfold mF at ha ha0 ha1;unfold sj;cases hg:(fX m1).isSome
 ·have eg:=gb h1.len hg
  have ef:lR m1=m1:=by
   unfold lR;cases hq:fX m1 with
   |none=>rfl
   |some x=>rw[hq] at hg;cases hg
  refine⟨S1,?_,by rw[ef];exact h1,bF.refl⟩
  simp?[fx,ha,ha0,hr,hd,ha1,k1,eg]
 ·obtain⟨fW,x,ci,c,b1,b2,b3,b4,b5,b6⟩:=fO h1.len hg
  have hI:=h1.rB b1 b2 b3;obtain⟨d,_⟩:=Eg h1.nd (c:=c) (by rw[b2];simp)
  have k2:=Q2 h1 z1 hn b1 b2 b3;rw[hy] at k2;have k3:=mq (y:={x with en:=GB m1 x}) hI d rfl rfl
  have hi:=hI.i;have ef:lR m1=m1.lQ {x with en:=GB m1 x}:=by unfold lR;rw[b6]
  refine⟨kL S1 {x with en:=GB m1 x} c,?_,by rw[ef];exact eS.lQ h1 b1 b2 b3,bF.kL λj hj=>?_⟩
  ·unfold jz at hi k3
   generalize GB m1 x=en at *
   simp?[fx,ha,ha0,hr,hd,ha1,k1,b5,k2,hi,k3]
  ·unfold fp
   simp only[zam,zby];exact .inr (.inr (.inr (.inr ⟨c,by rw[b2];simp,hj⟩)))
theorem Q3 (x:I)(a b:Str):(x.ya a b).outs.length<=x.outs.length+1/\(x.ya a b).gS=x.gS/\(x.ya a b).bW=x.bW:=by
 unfold I.ya;have hl:∀(z:I) (k:Str),(z.gK k).outs=z.outs/\(z.gK k).gS=z.gS/\(z.gK k).bW=z.bW:=λz k=>by unfold I.gK;split<;>exact⟨rfl,rfl,rfl⟩
 dsimp only;generalize hy:I.gK {x with outs:=gM x.outs a,wk:=x.wk+1} a=y
 have h1:y.outs=gM x.outs a/\y.gS=x.gS/\y.bW=x.bW:=by rw[<-hy,(hl _ _).1,(hl _ _).2.1,(hl _ _).2.2];exact⟨rfl,rfl,rfl⟩
 have h2:y.outs.length<=x.outs.length+1:=by
  rw[h1.1];unfold gM
  split<;>simp
 split<;>split<;>exact⟨h2,h1.2⟩
theorem Q4 (u:U)(x:I)(b:B):(x.qu u b).outs.length<=x.outs.length+1/\(x.qu u b).gS=x.gS/\(x.qu u b).bW=x.bW:=by
 unfold I.qu;have hf:∀(x:I) (o:Int),(x.yb o).outs=x.outs/\(x.yb o).gS=x.gS/\(x.yb o).bW=x.bW:=λx o=>by unfold I.yb;split<;>exact⟨rfl,rfl,rfl⟩
 dsimp only;generalize hz:(if o8 b.r b.rp=true then I.swap {x with fM:=x.fM+b.V2 u} else {x with fM:=x.fM+b.V2 u})=z
 have z1:z.outs=x.outs/\z.gS=x.gS/\z.bW=x.bW:=by rw[<-hz];split<;>exact⟨rfl,rfl,rfl⟩
 generalize hw:(if x.out b="" then z else z.ya (x.out b) (if b.w="run" then b.en else "strike"))=w
 have w1:w.outs.length<=x.outs.length+1/\w.gS=x.gS/\w.bW=x.bW:=by
  rw[<-hw,<-z1.1,<-z1.2.1,<-z1.2.2];split
  ·exact⟨zbc _,rfl,rfl⟩
  ·exact Q3 _ _ _
 split
 ·rw[(hf w u.o).1,(hf w u.o).2.1,(hf w u.o).2.2];exact w1
 ·exact w1
theorem zQ (l:List (Str×Int))(k:Str)(v:Int):(ny l k v).length<=l.length+1:=by unfold ny;split<;>simp
theorem Sz.mono (h:Sz m n)(hn:n<=n'):Sz m n':=⟨zah h.pl hn,zah h.kn hn,zah h.fN hn,h.p0,h.p1,λx hx=>zah (h.outs x hx) hn,λx hx=>zah (h.gS x hx) hn,h.bW⟩
theorem Sz.jw (z:Sz m n)(e1:m.pl=fW++[x])(e:gW):Sz (jw m x e) (n+1):=by
 have We:x∈m.pl:=by rw[e1];simp
 have z':=z.mono (zbc n)
 have ho:=z.outs x We;have hs:=z.gS x We;cases e with
 |kO b =>
  have q:=Q4 m.ru x b;have k:=z'.lQ (x':=x.qu m.ru b) e1 q.2.2 (by omega) (by rw[q.2.1];omega)
  refine⟨k.pl,k.kn,?_,k.p0,k.p1,k.outs,k.gS,k.bW⟩
  show (m.fN++[iQ m x b]).length<=n+1
  have:=z.fN
  simp
  exact this
 |sN nm=>exact z'.lQ (x':=x.Eb nm) e1 (by unfold I.Eb;split<;>rfl) (by unfold I.Eb;split<;>(show x.outs.length<=_;omega)) (by unfold I.Eb;split<;>(show x.gS.length<=_;omega))
 |qv nm=>exact z'.lQ (x':=x.zN nm) e1 rfl (by show x.outs.length<=_;omega) (by have:=zQ x.gS nm (jr x.gS nm+1);show (ny _ _ _).length<=_;omega)
 |qw nm=>exact z'.lQ (x':=x.gK nm) e1 (by unfold I.gK;split<;>rfl) (by unfold I.gK;split<;>(show x.outs.length<=_;omega)) (by unfold I.gK;split<;>(show x.gS.length<=_;omega))
 |fR=>exact z'.lQ (x':={ x with en:= "declared" }) e1 rfl (by show x.outs.length<=_;omega) (by show x.gS.length<=_;omega)
 |cW _ _ _ _=>exact z'
 |swap _ _=>exact z'
 |g_=>exact z'
 |mw=>exact z'
theorem Sz.fP (z:Sz m n):Sz (lR m) n:=by
 unfold lR;cases hg:fX m with
 |none=>exact z
 |some x =>
  rcases zci m.pl with h|⟨fW,w,h⟩
  ·unfold fX at hg;rw[h] at hg;cases hg
  ·have h:m.pl=fW++[w]:=by simpa using h
   rw[qz h] at hg;split at hg
   ·cases hg
    exact z.lQ h rfl (z.outs x (by rw[h];simp)) (z.gS x (by rw[h];simp))
   ·cases hg
end
noncomputable def iH (u:U)(t0 t1:Str)(p0 p1:List Str):M:=⟨u,t0,t1,p0,p1,p0++p1,[],false,false,[]⟩
noncomputable def wW (k:Nat):Ly:=⟨k,k+1,k+2,k+3,[]⟩
def zR (S:Cs)(m:M):Cs:=S++[Ce.fH "Match" (mF m (wW S.length)),Ce.bD (m.kn.map .str),Ce.bD [],Ce.bD []]
theorem ga1:(S++(a::b::r))[S.length+1]? = some b:=by
 rw[zau (by omega),show S.length+1 - S.length=1 by omega];rfl
theorem ga3:(S++(a::b::c::d::r))[S.length+3]? = some d:=by
 rw[zau (by omega),show S.length+3 - S.length=3 by omega];rfl
theorem Q5 (t0 t1:Str)(p0 p1:List Str)(h0:p0.length<=11)(h1:p1.length<=11)(S:Cs):DR [cR t0 t1 p0 p1,.str "player"] S = .ok (.hd S.length) (S++[.bD ((p0++p1).map .str)]):=by
 unfold DR cR;have hl:(p0.length<=sizeLine)=True:=bK (by omega)
 have An:(p0.length+p1.length<=sizeLine)=True:=bK (by omega)
 simp?[fx,Kl,zad,zaG,hl,An,zde,zan]
theorem afU (u:U)(t0 t1:Str)(p0 p1:List Str)(h0:p0.length<=11)(h1:p1.length<=11)(S:Cs):Iz [.hd S.length,u.t,cR t0 t1 p0 p1] (S++[.fH "Match" []]) = .ok .bq (zR S (iH u t0 t1 p0 p1)):=by
 unfold Iz zR iH mF wW;have ht:=λS=>Q5 t0 t1 p0 p1 h0 h1 S
 have hl0:(p0.length<=sizeLine)=True:=bK (by omega)
 have Nt:(p1.length<=sizeLine)=True:=bK (by omega)
 have hz:(∀n:Nat,(n<5)=True->(n<sizeLine)=True):=λn h=>lF (by have:=of_eq_true h;omega)
 unfold cR at ht ⊢
 generalize u.t=ut at *
 simp?[fx,ht,hz,zad,hl0,Nt,Z2,sa0,zcI]
theorem Wg (S:Cs)(u:U)(t0 t1:Str)(p0 p1:List Str):eS (zR S (iH u t0 t1 p0 p1)) (iH u t0 t1 p0 p1) (wW S.length):=by
 unfold zR;refine⟨Z2,ga1,ga2,ga3,rfl,λj x c h=>?_,?_⟩
 ·simp[iH] at h
 ·simp[fp,wW]
theorem Wh (u:U)(t0 t1:Str)(p0 p1:List Str)(h0:p0.length<=11)(h1:p1.length<=11):Sz (iH u t0 t1 p0 p1) 22:=⟨by simp[iH],by simp[iH];omega,by simp[iH],h0,h1,λx h=>by simp[iH] at h,λx h=>by simp[iH] at h,λx h=>by simp[iH] at h⟩
def rC (m:M):Tr:=match fX m with
 |some x=>.tp [.str (mH m x.bW),.str x.o7,.str x.rY,.str x.wR,.int x.fM,.int x.wk,.int x.ov,.int x.ba]
 |none=>.bq
section
variable {S:Cs}{m:M}{y:Ly}{n:Nat}
theorem Wi (h:eS S m y)(z:Sz m n)(hn:n<=1000):I_ [.hd y.a] S = .ok (rC m) S:=by
 unfold I_ rC;have k1:=fS h (zah z.pl hn)
 have ha:=h.a;unfold mF cR at ha;cases hg:(fX m).isSome
 ·have eg:=gb h.len hg
  have en:fX m=none:=by
   cases hq:fX m with
   |none=>rfl
   |some x=>rw[hq] at hg;cases hg
  rw[en];refine pX (S1:=S) (t:=.bq) ?_ (zbZ ..) (by unfold CF;simp only[UL];rfl)
  simp?[fx,ha,k1,eg]
 ·obtain⟨fW,x,ci,c,b1,b2,b3,b4,b5,b6⟩:=fO h.len hg
  have hi:=(h.rB b1 b2 b3).i
  unfold jz at hi;have k5:=@ju m x.bW (z.bW x (by rw[b1];simp))
  rw[b6];refine pX (S1:=S) (t:=.tp [.str (mH m x.bW),.str x.o7,.str x.rY,.str x.wR,.int x.fM,.int x.wk,.int x.ov,.int x.ba]) ?_ (zbZ ..) ?_
  ·simp?[fx,ha,hi,k1,b5,k5]
  ·unfold CF
   simp only[pY,N7,HV,AL,zbi,zbG,zbz];rfl
end
noncomputable def nR (a b n:Str):Str:=if n=a then b else n
def Bw (a b:Str)(l:List Str):List Str:=l.foldl (λq n=>gM q (nR a b n)) []
def GF (a b:Str)(l:List (Str×Int)):List (Str×Int):=l.foldl (λq p=>ny q (nR a b p.1) (jr l p.1)) []
theorem GG (l:List Str)(n:Str):(gM l n).length<=l.length+1:=by unfold gM;split<;>simp
theorem Q6:(Bw a b l).length<=l.length:=by
 have:∀(l q:List Str),(l.foldl (λq n=>gM q (nR a b n)) q).length<=q.length+l.length:=by
  intro l;induction l with
  |nil=>intro q;simp
  |cons n r ih=>intro q;rw[zaT];have:=ih (gM q (nR a b n));have:=GG q (nR a b n);rw[zas];omega
 simpa[Bw] using this l []
theorem Q7:(GF a b l).length<=l.length:=by
 have:∀(g:Str->Int) (l q:List (Str×Int)),(l.foldl (λq p=>ny q (nR a b p.1) (g p.1)) q).length<=q.length+l.length:=by
  intro g l;induction l with
  |nil=>intro q;simp
  |cons n r ih=>intro q;rw[zaT];have:=ih (ny q (nR a b n.1) (g n.1));have:=zQ q (nR a b n.1) (g n.1);rw[zas];omega
 simpa[GF] using this (jr l) l []
theorem aoE (l:List Str):fm [] (l.map λn=>(Sum.inr (nR a b n),Tr.bl true))=iF (Bw a b l):=by
 unfold fm Bw;rw[List.foldl_map];have:∀(l q:List Str),l.foldl (λx y=>gy x (Sum.inr (nR a b y):dF) (Tr.bl true)) (iF q)=iF (l.foldl (λq n=>gM q (nR a b n)) q):=by
  intro l;induction l with
  |nil=>intro q;rfl
  |cons n r ih=>intro q;rw[zaT,Ec,ih,zaT]
 exact this l []
theorem aoF (l:List (Str×Int)):fm [] (l.map λp=>(Sum.inr (nR a b p.1),Tr.int (jr l p.1)))=tu (GF a b l):=by
 unfold fm GF;rw[List.foldl_map];have:∀(g:Str->Int) (l q:List (Str×Int)),l.foldl (λx y=>gy x (Sum.inr (nR a b y.1):dF) (Tr.int (g y.1))) (tu q)=tu (l.foldl (λq p=>ny q (nR a b p.1) (g p.1)) q):=by
  intro g l;induction l with
  |nil=>intro q;rfl
  |cons n r ih=>intro q;rw[zaT,Jl,ih,zaT]
 exact this (jr l) l []
theorem zS {α:Type}(k:α -> Str)(v:α -> Tr):∀l:List α,q_ (l.map λp=>.tp [.str (k p),v p])=some (l.map λp=>(Sum.inr (k p),v p))
 |[]=>rfl
 |p::r=>by
  rw[oh];unfold q_;rw[zS k v r];rfl
theorem Z3 {α:Type}{S:Cs}{k:Nat}{D:List (dF×Tr)}(hk:S[k]? = some (.iy D))(a b:Str)(L:List α)(nm:α -> Str)(vl:α -> Tr)(hD:D.map (λp=>OH p.1)=L.map λp=>.str (nm p))(hv:∀p∈L,aN (.inr (nm p)) D=some (vl p))(hl:L.length<=1000):
  DY [.hd k,.str a,.str b] S = .ok (.hd S.length) (S.set k (.xE D)++[.iy (fm [] (L.map λp=>(Sum.inr (nR a b (nm p)),vl p)))]):=by
 unfold DY;have hf:(S.set k (.xE D))[k]? = some (.xE D):=cO (bh hk)
 generalize hS:S.set k (.xE D)=S1 at *
 simp only[CG,gG,aE,bN,af,fD,qX,aa,ak,iD,hk,hD,hS,R.dY,R.gE,iN,oh,Ii,zbY,BI,zas,zbm,Nat.reduceAdd,Nat.reduceSub,zcu,zaD,zaX,zaL,Option.join,zcr,id_eq,zax];rw[cI trivial (λτ=>∃v,τ=[some (.str b),some (.hd k),some (.str a),v]) (λp=>.str (nm p)) (λp=>.tp [.str (nR a b (nm p)),vl p]) (λ_=>true) L _ [] ⟨_,rfl⟩ ?_ (by simp;omega)]
 ·rw[BI,zbX.mpr (λ_ _=>rfl)]
  have An:(L.map λp=>((Sum.inr (nR a b (nm p)):dF),vl p)).length<=1000:=by simpa using hl
  have hL1:S1.length=S.length:=by rw[<-hS];simp
  simp only[R.dY,A5,Ez,zS (λp=>nR a b (nm p)) vl,R.gE,uG,if_pos An,hL1]
 ·rintro p hp τ ⟨v,rfl⟩
  refine⟨[some (.str b),some (.hd k),some (.str a),some (.str (nm p))],⟨_,rfl⟩,rfl,rfl,λ_=>?_⟩
  have h1:=hv p hp;unfold nR;by_cases h:nm p=a
  ·rw[if_pos h]
   rw[h] at h1;simp?[h,uR,AZ,hf,zcf,h1]
  ·rw[if_neg h]
   simp?[h,uR,AZ,hf,zcf,h1]
theorem K6 (h:k∈l):aN (.inr k) (iF l)=some (.bl true):=by
 have h1:=kM (k:=k) (l:=l)
 rw[decide_eq_true h] at h1;obtain⟨t,e⟩:=zcq.mp h1;rw[e];have:∀l:List Str,aN (.inr k) (iF l)=some t->t = .bl true:=by
  intro l;induction l with
  |nil=>intro q;cases q
  |cons a r ih =>
   intro q;unfold iF at q;rw[oh] at q;unfold aN at q;split at q
   ·cases q;rfl
   ·exact ih q
 rw[this l e]
theorem Q8:∀p∈l,aN (.inr p.1) (tu l)=some (.int (jr l p.1)):=by
 induction l with
 |nil=>intro p h;cases h
 |cons a r ih =>
  intro p h;unfold tu;rw[oh];obtain⟨k,v⟩:=a;unfold aN jr;by_cases e:k=p.1
  ·rw[if_pos (by rw[e]),if_pos e]
  ·rw[if_neg (λz=>e (zdO z)),if_neg e]
   rcases zam.mp h with rfl|h
   ·exact absurd rfl e
   ·exact ih p h
def I.nR (x:I)(a b:Str):I:={x with ZU:=My.nR a b x.ZU,outs:=Bw a b x.outs,gS:=GF a b x.gS}
section
variable {S:Cs}{x:I}{c:L3}
theorem Q9 (h:g9 S x c)(d:Dj c)(a b:Str)(ho:x.outs.length<=1000)(hs:x.gS.length<=1000):
  ∃S',IX [.hd c.i,.str a,.str b] S = .ok .bq S'/\g9 S' (x.nR a b) ⟨c.i,S.length,S.length+1⟩/\bF (lP c) S S':=by
 have k1:=Z3 h.o a b x.outs id (λ_=>.bl true) (by unfold iF;rw[zaI];rfl) (λp hp=>K6 hp) ho
 simp only[id] at k1;rw[aoE] at k1;have hi:=h.i;have lo:=bh h.o;have li:=bh h.i;have ls:=bh h.s;generalize hS1:S.set c.o (.xE (iF x.outs))++[.iy (iF (Bw a b x.outs))]=S1 at *
 have on1:bF (lP c) S S1:=by rw[<-hS1];exact (bF.set (by simp[lP])).trans bF.sI
 have l1:S1.length=S.length+1:=by rw[<-hS1];simp
 have i1:S1[c.i]? = some (.fH "Innings" (jz x c)):=by
  rw[<-hS1,zal (by simpa using li),dz d.io.symm];exact hi
 have s1:S1[c.s]? = some (.iy (tu x.gS)):=by
  rw[<-hS1,zal (by simpa using ls),dz d.os];exact h.s
 have o1:S1[S.length]? = some (.iy (iF (Bw a b x.outs))):=by
  rw[<-hS1,zau (by simp)];simp
 generalize yI:S1.set c.i (.fH "Innings" (jz x ⟨c.i,S.length,c.s⟩))=S2 at *
 have on2:bF (lP c) S S2:=by rw[<-yI];exact on1.trans (bF.set (by simp[lP]))
 have l2:S2.length=S.length+1:=by rw[<-yI];simpa using l1
 have i2:S2[c.i]? = some (.fH "Innings" (jz x ⟨c.i,S.length,c.s⟩)):=by rw[<-yI];exact cO (by omega)
 have s2:S2[c.s]? = some (.iy (tu x.gS)):=by rw[<-yI,dz d.is];exact s1
 have o2:S2[S.length]? = some (.iy (iF (Bw a b x.outs))):=by rw[<-yI,dz (by omega)];exact o1
 have k2:=Z3 s2 a b x.gS (·.1) (λp=>.int (jr x.gS p.1)) (by unfold tu;rw[zaI];rfl) Q8 hs
 rw[aoF,l2] at k2;generalize hS3:S2.set c.s (.xE (tu x.gS))++[.iy (tu (GF a b x.gS))]=S3 at *
 have on3:bF (lP c) S S3:=by rw[<-hS3];exact on2.trans ((bF.set (by simp[lP])).trans bF.sI)
 have l3:S3.length=S.length+2:=by rw[<-hS3];simp[l2]
 have i3:S3[c.i]? = some (.fH "Innings" (jz x ⟨c.i,S.length,c.s⟩)):=by
  rw[<-hS3,zal (by simp;omega),dz d.is.symm];exact i2
 have o3:S3[S.length]? = some (.iy (iF (Bw a b x.outs))):=by
  rw[<-hS3,zal (by simp;omega),dz (by omega)];exact o2
 have s3:S3[S.length+1]? = some (.iy (tu (GF a b x.gS))):=by
  rw[<-hS3,zau (by simp;omega)];simp[l2]
 have li3:c.i<S3.length:=by omega
 refine⟨S3.set c.i (.fH "Innings" (jz (x.nR a b) ⟨c.i,S.length,S.length+1⟩)),?_,⟨cO li3,by rw[dz (by show ¬ c.i=S.length;omega)];exact o3,by rw[dz (by show ¬ c.i=S.length+1;omega)];exact s3⟩,on3.trans (bF.set (by simp[lP]))⟩
 unfold IX I.nR nR;unfold jz at hi i1 yI i2 i3 ⊢
 by_cases hh:x.ZU=a
 ·subst hh
  simp?[fx,hi,k1,i1,yI,i2,k2,i3,cO li3,fE]
 ·simp?[fx,hi,k1,i1,yI,i2,k2,i3,hh,cO li3,fE]
end
theorem Z4 (ps:List Str)(a b:Str)(S:Cs)(hl:ps.length<=1000):IW [.ls (ps.map .str),.str a,.str b] S = .ok (.ls ((ps.map (nR a b)).map .str)) S:=by
 unfold IW;simp only[CG,gG,aE,fD,qX,aa,iL,w9,R.dY,R.gE,iN,oh,Ii,zbY,BI,zas,zbm,Nat.reduceAdd,Nat.reduceSub,zcu,zaD,zaX,zaL,Option.join,zcr,id_eq,zax];rw[cI trivial (λτ=>∃v,τ=[some (.str b),some (.str a),v]) (λn=>.str n) (λn=>.str (nR a b n)) (λ_=>true) ps _ [] ⟨_,rfl⟩ ?_ (by simp;omega)]
 ·rw[BI,zbX.mpr (λ_ _=>rfl),zaI]
  simp only[R.dY,R.gE,uG];rfl
 ·rintro n hn τ ⟨v,rfl⟩
  refine⟨[some (.str b),some (.str a),some (.str n)],⟨_,rfl⟩,rfl,rfl,λ_=>?_⟩
  unfold nR;by_cases h:n=a<;>simp?[h]
section
variable {S:Cs}{m:M}{y:Ly}{n:Nat}{fW:List I}{x x':I}{ci:List L3}{c:L3}
theorem eS.rcd (h:eS S m y)(m1:M)(hp:m1.pl=m.pl)(hl:m1.fN=m.fN):eS ((S.set y.k (.bD (m1.kn.map .str))).set y.a (.fH "Match" (mF m1 y))) m1 y:=by
 obtain⟨a1,a2,a3,a4,a5,a6⟩:=Wb h.nd;have l1:=bh h.a;have l2:=bh h.k;refine⟨cO (by simpa using l1),by rw[dz a1];exact cO l2,by rw[dz a2,dz a4];exact h.p,by rw[dz a3,dz a5,hl];exact h.l,by rw[hp];exact h.len,λj x c h1 h2=>?_,h.nd⟩
 rw[hp] at h1;have hc:=zaZ h2
 exact (h.sN j x c h1 h2).only (F:=[y.k,y.a]) ((bF.set (by simp)).trans (bF.set (by simp))) λk hk q=>by
  rcases zam.mp q with rfl|q
  ·exact Jo h.nd (.inr (.inl rfl)) c hc hk
  ·rw[zaN] at q
   subst q;exact Jo h.nd (.inl rfl) c hc hk
theorem eS.aoH (h:eS S m y)(e1:m.pl=fW++[x])(e2:y.cs=ci++[c])(e3:ci.length=fW.length)(on:bF (lP c) S S')(hI:g9 S' x' ⟨c.i,S.length,S.length+1⟩):eS S' (m.lQ x') {y with cs:=ci++[⟨c.i,S.length,S.length+1⟩]}:=by
 obtain⟨d,a1,a2,a3,a4,b1,b2,b3,b4,c1,c2,c3,c4⟩:=Eg h.nd (c:=c) (by rw[e2];simp)
 have nm:∀j,j≠c.i->j≠c.o->j≠c.s->j∉lP c:=λj h1 h2 h3 q=>by simp[lP] at q;rcases q with q|q|q;exact h1 q;exact h2 q;exact h3 q
 have ep:(m.lQ x').pl=fW++[x']:=by unfold M.lQ;simp[e1]
 refine⟨on.at h.a (nm _ a1.symm b1.symm c1.symm),on.at h.k (nm _ a2.symm b2.symm c2.symm),?_,on.at h.l (nm _ a4.symm b4.symm c4.symm),?_,?_,?_⟩
 ·have:=on.at h.p (nm _ a3.symm b3.symm c3.symm)
  rw[e2] at this;rw[this];simp
 ·rw[ep];simp[e3]
 ·intro j z cz h1 h2
  rw[ep] at h1;by_cases hj:j=fW.length
  ·subst hj
   rw[cS] at h1;rw[<-e3,cS] at h2;cases h1;cases h2
   exact hI
  ·have EG:j<fW.length:=by
    have:=(zae.mp h1).1
    simp at this
    omega
   rw[zal EG] at h1;rw[zal (by omega)] at h2
   have HJ:y.cs[j]? = some cz:=by rw[e2,zal (by omega)];exact h2
   refine (h.sN j z cz (by rw[e1,zal EG];exact h1) HJ).only on (Bt (Z1 h.nd) HJ (k:=fW.length) (by rw[e2,<-e3,cS]) hj)
 ·have jD:=h.lt
  have nd:=h.nd;have f1:fp y=(y.a::y.k::y.p::y.l::ci.flatMap lP++[c.i])++[c.o,c.s]:=by unfold fp;rw[e2];simp[lP]
  have f2:fp {y with cs:=ci++[⟨c.i,S.length,S.length+1⟩]}=(y.a::y.k::y.p::y.l::ci.flatMap lP++[c.i])++[S.length,S.length+1]:=by unfold fp;simp[lP]
  rw[f2];rw[f1] at nd jD;generalize (y.a::y.k::y.p::y.l::ci.flatMap lP++[c.i])=L at *
  refine zcm.mpr ⟨(zcm.mp nd).1,by simp,λj hj k hk=>?_⟩
  have:=jD j (zcn _ hj)
  simp at hk
  omega
def xg (m:M)(a b:Str):M:={m with kn:=m.kn++[b],p0:=m.p0.map (nR a b),p1:=m.p1.map (nR a b)}
def EI (m:M)(a b:Str):M:=match fX m with|some x=>(xg m a b).lQ (x.nR a b)|none=>xg m a b
theorem Wj (h:eS S m y)(z:Sz m n)(hn:n+1<=1000)(a b:Str):
  ∃S' y',IY [.hd y.a,.str a,.str b] S = .ok .bq S'/\eS S' (EI m a b) y'/\bF (fp y) S S'/\y'.a=y.a/\∀j∈fp y',j∈fp y\/S.length<=j:=by
 have hM:=h.rcd (xg m a b) rfl rfl
 have ha:=h.a;have hk:=h.k;have la:=bh ha;have k1:=fS hM (zah z.pl (by omega))
 obtain⟨a1,_⟩:=Wb h.nd;have hz:(m.kn.length<sizeLine)=True:=lF (by have:=z.kn;omega)
 have w0:=λS=>Z4 m.p0 a b S (by have:=z.p0;omega)
 have w1:=λS=>Z4 m.p1 a b S (by have:=z.p1;omega)
 have hk2:((xg m a b).kn.map Tr.str)=m.kn.map .str++[.str b]:=by simp[xg]
 have on:bF (fp y) S ((S.set y.k (.bD ((xg m a b).kn.map .str))).set y.a (.fH "Match" (mF (xg m a b) y))):=(bF.set (by simp[fp])).trans (bF.set (by simp[fp]))
 have cM:((S.set y.k (.bD ((xg m a b).kn.map .str))).set y.a (.fH "Match" (mF (xg m a b) y))).length=S.length:=by simp
 have e0:(S.set y.k (.bD (m.kn.map .str++[.str b])))[y.a]? = some (.fH "Match" (mF m y)):=by rw[dz a1.symm];exact ha
 rw[hk2] at hM k1 on cM;have hMa:=hM.a;generalize yI:(S.set y.k (.bD (m.kn.map .str++[.str b]))).set y.a (.fH "Match" (mF (xg m a b) y))=S2 at *
 have hgo:fX (xg m a b)=fX m:=rfl
 have hgt:QZ (xg m a b) y=QZ m y:=rfl
 unfold IY EI;cases hg:(fX m).isSome
 ·have eg:=gb h.len hg
  have en:fX m=none:=by
   cases hq:fX m with
   |none=>rfl
   |some x=>rw[hq] at hg;cases hg
  rw[en];rw[hgt,eg] at k1;refine⟨S2,y,?_,hM,on,rfl,λj hj=>.inl hj⟩
  unfold mF xg cR at *
  simp?[fx,ha,hk,hz,e0,w0,w1,AW,yI,hMa,k1]
 ·obtain⟨fW,x,ci,c,b1,b2,b3,b4,b5,b6⟩:=fO h.len hg
  have hI:=hM.rB (x:=x) b1 b2 b3
  obtain⟨d,_⟩:=Eg h.nd (c:=c) (by rw[b2];simp)
  have We:x∈m.pl:=by rw[b1];simp
  obtain⟨S3,k2,k3,k4⟩:=Q9 hI d a b (zah (z.outs x We) (by omega)) (zah (z.gS x We) (by omega))
  have hi:=hI.i;rw[b6];rw[hgt,b5] at k1;refine⟨S3,_,?_,eS.aoH hM b1 b2 b3 k4 k3,on.trans (k4.mono λj hj=>?_),rfl,λj hj=>?_⟩
  ·unfold mF xg cR jz at *
   simp?[fx,ha,hk,hz,e0,w0,w1,AW,yI,hMa,k1,hi,k2]
  ·unfold fp
   simp only[zam,zby];exact .inr (.inr (.inr (.inr ⟨c,by rw[b2];simp,hj⟩)))
  ·rw[cM] at hj
   simp only[fp,zam,List.flatMap_append,zbt,zee,List.flatMap_nil,lP,zav,or_false,b2] at hj ⊢
   rcases hj with q|q|q|q|q|q|q|q
   ·exact .inl (.inl q)
   ·exact .inl (.inr (.inl q))
   ·exact .inl (.inr (.inr (.inl q)))
   ·exact .inl (.inr (.inr (.inr (.inl q))))
   ·exact .inl (.inr (.inr (.inr (.inr (.inl q)))))
   ·exact .inl (.inr (.inr (.inr (.inr (.inr (.inl q))))))
   ·exact .inr (by omega)
   ·exact .inr (by omega)
noncomputable def Oc (m:M):M:={m with clo:=true}
def EJ (m:M):M:=match fX m with|some x=>(Oc m).lQ { x with en:= "closed" } | none=>Oc m
theorem eS.akT (h:eS S m y)(m1:M)(hp:m1.pl=m.pl)(hl:m1.fN=m.fN)(hk:m1.kn=m.kn):eS (S.set y.a (.fH "Match" (mF m1 y))) m1 y:=by
 have:=h.rcd m1 hp hl
 rw[hk,jm h.k] at this;exact this
theorem Wk (h:eS S m y)(z:Sz m n)(hn:n<=1000):∃S',IZ [.hd y.a] S = .ok .bq S'/\eS S' (EJ m) y/\bF (fp y) S S':=by
 have hM:=h.akT (Oc m) rfl rfl rfl
 have ha:=h.a;have la:=bh ha;have k1:=fS hM (zah z.pl (by omega))
 have on:bF (fp y) S (S.set y.a (.fH "Match" (mF (Oc m) y))):=bF.set (by simp[fp])
 have hMa:=hM.a;generalize yI:S.set y.a (.fH "Match" (mF (Oc m) y))=S2 at *
 have hgt:QZ (Oc m) y=QZ m y:=rfl
 unfold IZ EJ;cases hg:(fX m).isSome
 ·have eg:=gb h.len hg
  have en:fX m=none:=by
   cases hq:fX m with
   |none=>rfl
   |some x=>rw[hq] at hg;cases hg
  rw[en];rw[hgt,eg] at k1;refine⟨S2,?_,hM,on⟩
  unfold mF Oc at *
  simp?[fx,ha,yI,hMa,k1]
 ·obtain⟨fW,x,ci,c,b1,b2,b3,b4,b5,b6⟩:=fO h.len hg
  have hI:=hM.rB (x:=x) b1 b2 b3
  obtain⟨d,_⟩:=Eg h.nd (c:=c) (by rw[b2];simp)
  have k3:=mq (y:={ x with en:= "closed" }) hI d rfl rfl
  have hi:=hI.i;rw[b6];rw[hgt,b5] at k1;refine⟨_,?_,eS.lQ (x':={ x with en:= "closed" }) hM b1 b2 b3,on.trans (bF.kL λj hj=>?_)⟩
  ·unfold mF Oc jz at *
   simp?[fx,ha,yI,hMa,k1,hi,k3]
  ·unfold fp
   simp only[zam,zby];exact .inr (.inr (.inr (.inr ⟨c,by rw[b2];simp,hj⟩)))
def tE (m:M)(a b:Str):Option Str:=if a∉m.p0++m.p1 then some "team" else if b∈m.kn then some "name" else match fX m with|none=>none|some x=>if x.dB a=true\/a=x.wR then some "there" else none
theorem K7 (h:eS S m y)(z:Sz m n)(hn:n<=1000)(a b:Str):ID [.hd y.a,.str a,.str b] S = .ok (dG (tE m a b)) (S++[.bD ((m.p0++m.p1).map .str)]):=by
 unfold ID tE;have k1:=Q5 m.t0 m.t1 m.p0 m.p1 z.p0 z.p1 S;have h':eS (S++[.bD ((m.p0++m.p1).map .str)]) m y:=h.only (F:=[]) bF.sI (by simp)
 have k2:=fS h' (zah z.pl hn)
 have hL:(S++[Ce.bD ((m.p0++m.p1).map .str)])[S.length]? = some (.bD ((m.p0++m.p1).map .str)):=Z2
 generalize S++[.bD ((m.p0++m.p1).map .str)]=S1 at *
 have ha:=h.a;have Tv:=h'.a;have hk':=h'.k;unfold mF at ha Tv;by_cases h1:a∈m.p0++m.p1
 ·by_cases h2:b∈m.kn
  ·simp?[fx,ha,k1,hL,Tv,hk',gm,bX,gj,h1,h2,dG]
  ·cases hg:(fX m).isSome
   ·have eg:=gb h.len hg
    have en:fX m=none:=by
     cases hq:fX m with
     |none=>rfl
     |some x=>rw[hq] at hg;cases hg
    simp?[fx,ha,k1,k2,hL,Tv,hk',gm,bX,gj,h1,h2,en,eg,dG]
   ·obtain⟨fW,x,ci,c,b1,b2,b3,b4,b5,b6⟩:=fO h.len hg
    have hI:=h'.rB b1 b2 b3;have k3:=kN hI a;have hi:=hI.i;unfold jz at hi;have k4:IC [.hd c.i,.str a] S1 = .ok (dG (if x.dB a=true\/a=x.wR then some "there" else none)) S1:=by
     unfold IC;cases h3:x.dB a
     ·by_cases h4:a=x.wR
      ·subst h4;simp?[fx,hi,k3,h3,dG]
      ·simp?[fx,hi,k3,h3,h4,dG]
     ·simp?[fx,hi,k3,h3,dG]
    generalize hr:(if x.dB a=true\/a=x.wR then some ("there":Str) else none)=r at *
    simp?[fx,ha,k1,k2,hL,Tv,hk',gm,bX,gj,h1,h2,b5,b6,k4,hr]
 ·simp?[fx,ha,k1,hL,gm,bX,gj,h1,dG]
noncomputable def Bx (m:M):Int:=match m.pl with|x::_=>x.bW|[]=>0
def Wl (m:M):Bool:=if m.pl.length=2/\2 * m.ru.i=4/\m.ZV=false then decide (0<m.ru.f/\m.ru.f<=wU m (Bx m)) else false
def nU (m:M):Option Str:=if (fX m).isSome=true then some "going" else if Wl m=true then none else some "follow"
theorem akU (h:eS S m y)(z:Sz m n)(hn:n<=1000):IE [.hd y.a] S = .ok (.bl (Wl m)) S:=by
 unfold IE Wl;have hs:m.pl.length<=1000:=zah z.pl hn
 have k1:=Gw h;have k2:=λs=>Gy h s hs
 have ha:=h.a;have hp:=h.p;have hz:(y.cs.length<=sizeLine)=True:=bK (by rw[h.len];omega)
 unfold mF U.t at ha;by_cases h2:m.pl.length=2
 ·have HJ:((y.cs.length:Int)=2)=True:=eq_true (by rw[h.len,h2];rfl)
  by_cases h4:2 * m.ru.i=4
  ·cases hf:m.ZV
   ·have cM:=h.len
    cases hpl:m.pl with
    |nil=>rw[hpl] at h2;cases h2
    |cons x r =>
     cases WR:y.cs with
     |nil=>rw[WR,hpl] at cM;cases cM
     |cons c q =>
      have hi:=(h.sN 0 x c (by rw[hpl];rfl) (by rw[WR];rfl)).i
      unfold jz at hi;have hl:Bx m=x.bW:=by unfold Bx;rw[hpl]
      rw[WR] at hp HJ hz;rw[hpl] at h2;rw[zas] at h2 HJ hz;rw[oh] at hp;have MP:((q.map λc:L3=>Tr.hd c.i).length+1<=sizeLine)=True:=by rw[zad];exact hz
      have aoI:(((q.map λc:L3=>Tr.hd c.i).length+1:Nat):Int)=2:=by rw[zad];exact of_eq_true HJ
      by_cases h5:0<m.ru.f<;>by_cases h6:m.ru.f<=wU m x.bW <;>
      simp?[fx,ha,hp,hi,hf,k1,k2,h4,h2,hl,hz,MP,HJ,aoI,h5,h6,zas,zad,W7,gLe,LO,hpl]
   ·simp?[fx,ha,hp,hf,k1,h4,h2,hz,HJ,zad]
  ·simp?[fx,ha,hp,k1,h4,h2,hz,HJ,zad]
 ·have HJ:((y.cs.length:Int)=2)=False:=eq_false (by rw[h.len];omega)
  simp?[fx,ha,hp,h2,hz,HJ,zad]
theorem Ei (h:eS S m y)(z:Sz m n)(hn:n<=1000):IG [.hd y.a] S = .ok (dG (nU m)) S:=by
 unfold IG nU;have k1:=fS h (zah z.pl hn)
 have k2:=akU h z hn;have ha:=h.a;unfold mF at ha;cases hg:(fX m).isSome
 ·have eg:=gb h.len hg
  cases hm:Wl m<;>simp?[fx,ha,k1,k2,eg,hm,dG]
 ·obtain⟨fW,x,ci,c,b1,b2,b3,b4,b5,b6⟩:=fO h.len hg
  simp?[fx,ha,k1,b5,dG]
end
def rD (m:M)(e:gW):Option Str:=if oJ m=true then some "done" else match e with
 |.cW t f o b=>jv m t f o b
 |.swap a b=>tE m a b
 |.g_=>nU m
 |.mw=>none
 |e=>d7 m e
def Wm (m:M)(s:Int)(f o b:Str):M:={m with pl:=m.pl++[Bu s f o b]}
def LV (m:M)(e:gW):M:=match e with
 |.cW t f o b=>Wm m ((Br m t).getD 0) f o b
 |.swap a b=>EI m a b
 |.g_=>{m with ZV:=true}
 |.mw=>EJ m
 |e=>match fX m with|some x=>jw m x e|none=>m
def oK (m:M)(e:gW):M:=lR (LV m e)
theorem B.K8 {b:B}{w:Str}(h:b.zM=some w):w.length<=100:=by
 unfold B.zM at h;split at h
 ·cases h;decide +kernel
 ·split at h
  ·cases h
  ·cases h;decide +kernel
theorem gO (h:d7 m e=some w):w.length<=100:=by
 unfold d7 at h;cases hg:fX m with
 |none=>rw[hg] at h;cases h;decide +kernel
 |some x =>
  rw[hg] at h;cases e with
  |kO b =>
   change x.i_ b=some w at h
   unfold I.i_ at h;repeat' split at h
   all_goals first | (cases h;done) | (cases h;decide +kernel) | (cases h;rename_i q;exact B.K8 q)
  |sN k =>
   change x.Ed _ k=some w at h
   unfold I.Ed at h;repeat' split at h
   all_goals first | (cases h;done) | (cases h;decide +kernel)
  |qv k =>
   change x.qy _ _ k=some w at h
   unfold I.qy at h;repeat' split at h
   all_goals first | (cases h;done) | (cases h;decide +kernel)
  |qw k =>
   change (if x.dB k=true then none else some ("who":Str))=some w at h
   split at h
   ·cases h
   ·cases h;decide +kernel
  |cW _ _ _ _=>cases h
  |swap _ _=>cases h
  |fR=>cases h
  |g_=>cases h
  |mw=>cases h
theorem Q_ (h:rD m e=some w):w.length<=100:=by
 unfold rD at h;split at h
 ·cases h;decide +kernel
 ·cases e with
  |cW t f o b =>
   simp only at h;unfold jv at h
   repeat' split at h
   all_goals first | (cases h;done) | (cases h;decide +kernel)
  |swap a b =>
   simp only at h;unfold tE at h
   repeat' split at h
   all_goals first | (cases h;done) | (cases h;decide +kernel)
  |g_ =>
   simp only at h;unfold nU at h
   repeat' split at h
   all_goals first | (cases h;done) | (cases h;decide +kernel)
  |mw=>cases h
  |kO b=>exact gO h
  |sN k=>exact gO h
  |qv k=>exact gO h
  |qw k=>exact gO h
  |fR=>exact gO h
section
variable {S:Cs}{m:M}{y:Ly}{n:Nat}
theorem Z5 (h:eS S m y)(z:Sz m n)(hn:n<=1000)(e:gW):∃G,sf [.hd y.a,e.t] S = .ok (dG (rD m e)) (S++G):=by
 by_cases hi:e.zP=true
 ·refine⟨[],?_⟩
  rw[Eh h z hn e hi,zax];unfold rD;cases e<;>first|rfl | (cases hi;done)
 ·have k1:=Gz h z hn
  have ha:=h.a;unfold sf rD;unfold mF at ha;cases hd:oJ m
  ·cases e with
   |cW t f o b =>
    refine⟨[],?_⟩
    have k2:=GA h z hn t f o b;unfold gW.t at *
    simp?[fx,ha,k1,hd,k2,zax]
   |swap a b =>
    refine⟨[.bD ((m.p0++m.p1).map .str)],?_⟩
    have k2:=K7 h z hn a b;unfold gW.t at *
    simp?[fx,ha,k1,hd,k2]
   |g_ =>
    refine⟨[],?_⟩
    have k2:=Ei h z hn;unfold gW.t at *
    simp?[fx,ha,k1,hd,k2,zax]
   |mw =>
    refine⟨[],?_⟩
    unfold gW.t at *
    simp?[fx,ha,k1,hd,zax,dG]
   |kO _=>exact absurd rfl hi
   |sN _=>exact absurd rfl hi
   |qv _=>exact absurd rfl hi
   |qw _=>exact absurd rfl hi
   |fR=>exact absurd rfl hi
  ·refine⟨[],?_⟩
   simp?[fx,ha,k1,hd,zax,dG]
theorem Sz.beg (z:Sz m n)(hs:s=0\/s=1)(hn:1<=n+1)(f o b:Str):Sz (Wm m s f o b) (n+1):=by
 have z':=z.mono (zbc n)
 have hm:∀w∈(Wm m s f o b).pl,w∈m.pl\/w=Bu s f o b:=λw hw=>by
  rcases zbt.mp (show w∈m.pl++[Bu s f o b] from hw) with q|q
  ·exact .inl q
  ·exact .inr (by simpa using q)
 refine⟨?_,z'.kn,z'.fN,z'.p0,z'.p1,λw hw=>?_,λw hw=>?_,λw hw=>?_⟩
 ·show (m.pl++[Bu s f o b]).length<=n+1
  have:=z.pl
  simp;exact this
 ·rcases hm w hw with q|rfl
  ·exact z'.outs w q
  ·show 0<=_;omega
 ·rcases hm w hw with q|rfl
  ·exact z'.gS w q
  ·show 1<=_;omega
 ·rcases hm w hw with q|rfl
  ·exact z'.bW w q
  ·exact hs
theorem Jp (hg:fX m=some x):∃fW,m.pl=fW++[x]/\x.en="" := by
 rcases zci m.pl with h|⟨fW,w,h⟩
 ·unfold fX at hg;rw[h] at hg;cases hg
 ·have h:m.pl=fW++[w]:=by simpa using h
  rw[qz h] at hg;split at hg
  ·cases hg;exact⟨fW,h,by assumption⟩
  ·cases hg
theorem Sz.xg (z:Sz m n)(a b:Str):Sz (xg m a b) (n+1):=by
 have z':=z.mono (zbc n)
 exact⟨z'.pl,by have:=z.kn;simp[My.xg];omega,z'.fN,by have:=z.p0;simpa[My.xg] using this,by have:=z.p1;simpa[My.xg] using this,z'.outs,z'.gS,z'.bW⟩
theorem Sz.sw (z:Sz m n)(a b:Str):Sz (EI m a b) (n+1):=by
 unfold EI;cases hg:fX m with
 |none=>exact z.xg a b
 |some x =>
  obtain⟨fW,e,_⟩:=Jp hg;have hx:x∈m.pl:=by rw[e];simp
  have h1:=z.outs x hx;have h2:=z.gS x hx;exact (z.xg a b).lQ (x:=x) (x':=x.nR a b) e rfl (zah Q6 (by omega)) (zah Q7 (by omega))
theorem Sz.cl (z:Sz m n):Sz (EJ m) n:=by
 unfold EJ;have zb:Sz (Oc m) n:=⟨z.pl,z.kn,z.fN,z.p0,z.p1,z.outs,z.gS,z.bW⟩
 cases hg:fX m with
 |none=>exact zb
 |some x =>
  obtain⟨fW,e,_⟩:=Jp hg;have hx:x∈m.pl:=by rw[e];simp
  exact zb.lQ (x:=x) (x':={ x with en:= "closed" }) e rfl (z.outs x hx) (z.gS x hx)
structure akV (S:Cs) (y:Ly) (S':Cs) (m':M) (y':Ly):Prop where
 gR:eS S' m' y'
 on:bF (fp y) S S'
 a:y'.a=y.a
 fp:∀j∈fp y',j∈My.fp y\/S.length<=j
theorem akW (h:eS S m y)(z:Sz m n)(hn:n+1<=1000)(e:gW)(hr:rD m e=none):∃S' y',wQ [.hd y.a,e.t] S = .ok .bq S'/\akV S y S' (LV m e) y'/\Sz (LV m e) (n+1):=by
 have ha:=h.a;unfold mF at ha;have k1:=fS h (zah z.pl (by omega))
 by_cases hi:e.zP=true
 ·have xO:d7 m e=none:=by
   unfold rD at hr;split at hr
   ·cases hr
   ·cases e<;>first|exact hr | (cases hi;done)
  unfold d7 at xO;cases hg:fX m with
  |none=>rw[hg] at xO;cases xO
  |some x =>
   obtain⟨fW,x2,ci,c,b1,b2,b3,b4,b5,b6⟩:=fO h.len (by rw[hg];rfl)
   rw[hg] at b6;cases b6;obtain⟨S1,k2,k3,k4⟩:=aoC h z (by omega) b1 b2 b3 b4 e hi
   have ed:LV m e=jw m x e:=by unfold LV;rw[hg];cases e<;>first|rfl | (cases hi;done)
   rw[ed];exact⟨S1,y,k2,⟨k3,k4,rfl,λj hj=>.inl hj⟩,z.jw b1 e⟩
 ·unfold rD at hr
  split at hr
  ·cases hr
  ·unfold wQ
   cases e with
   |cW t f o b =>
    simp only at hr
    unfold jv at hr;split at hr
    ·cases hr
    ·rename_i hgo
     cases hs:Br m t with
     |none=>rw[hs] at hr;cases hr
     |some s =>
      have k4:=Wf h z (by omega) t f o b s hs
      have hM:=h.akO s f o b;have ed:LV m (.cW t f o b)=Wm m s f o b:=by unfold LV;simp only;rw[hs];rfl
      rw[ed];refine⟨_,_,?_,⟨hM,bF.trans bF.sI (bF.set (by simp[fp])),rfl,λj hj=>?_⟩,z.beg (Z0 hs) (by omega) f o b⟩
      ·unfold gW.t at *
       simp?[fx,ha,k4,k1]
      ·have WU:fp {y with cs:=y.cs++[jh S.length]}=fp y++[S.length,S.length+1,S.length+2]:=by
        unfold fp;simp[lP,jh]
       rw[WU] at hj;rcases zbt.mp hj with q|q
       ·exact .inl q
       ·simp at q;exact .inr (by omega)
   |swap a b =>
    obtain⟨S',y',k2,k3,k4,k5,k6⟩:=Wj h z hn a b;refine⟨S',y',?_,⟨k3,k4,k5,k6⟩,z.sw a b⟩
    unfold gW.t;simp?[fx,ha,k1,k2]
   |g_ =>
    have hM:=h.akT {m with ZV:=true} rfl rfl rfl
    refine⟨_,y,?_,⟨hM,bF.set (by simp[fp]),rfl,λj hj=>.inl hj⟩,(show Sz {m with ZV:=true} (n+1) from let z':=z.mono (zbc n);⟨z'.pl,z'.kn,z'.fN,z'.p0,z'.p1,z'.outs,z'.gS,z'.bW⟩)⟩
    unfold gW.t mF;simp?[fx,ha,k1]
   |mw =>
    obtain⟨S',k2,k3,k4⟩:=Wk h z (by omega)
    refine⟨S',y,?_,⟨k3,k4,rfl,λj hj=>.inl hj⟩,z.cl.mono (zbc n)⟩
    unfold gW.t;simp?[fx,ha,k1,k2]
   |kO _=>exact absurd rfl hi
   |sN _=>exact absurd rfl hi
   |qv _=>exact absurd rfl hi
   |qw _=>exact absurd rfl hi
   |fR=>exact absurd rfl hi
theorem bF.fresh (a:bF F S S')(b:bF F' S' S'')(h:∀j∈F',j∈F\/S.length<=j):bF F S S'':=⟨zah a.1 b.1,λj h1 h2=>by
 rw[b.2 j (zap h1 a.1) λq=>(h j q).elim h2 λk=>by omega,a.2 j h1 h2]⟩
theorem Wn (h:eS S m y)(z:Sz m n)(hn:n+1<=1000)(e:gW)(hr:rD m e=none):∃S' y',sj [.hd y.a,e.t] S = .ok .bq S'/\akV S y S' (oK m e) y'/\Sz (oK m e) (n+1):=by
 obtain⟨G,k1⟩:=Z5 h z (by omega) e
 rw[hr] at k1;have h0:eS (S++G) m y:=h.only (F:=[]) bF.sI (by simp)
 obtain⟨S1,y1,k2,k3,k4⟩:=akW h0 z hn e hr;obtain⟨S',k5,k6,k7⟩:=GD h z e.t k1 h0 k3.a k2 k3.gR k4 hn;have k3f:∀j∈fp y1,j∈fp y\/S.length<=j:=λj hj=>(k3.fp j hj).imp id λq=>by rw[zan] at q;omega
 exact⟨S',y1,k5,⟨k6,((bF.sI (F:=fp y)).trans k3.on).fresh k7 k3f,k3.a,k3f⟩,k4.fP⟩
theorem Wo (h:eS S m y)(z:Sz m n)(hn:n+1<=1000)(e:gW)(w:Str)(hr:rD m e=some w):∃S0,ni S S0/\sj [.hd y.a,e.t] S = .ex S0.length (S0++[.xD "NotLet" [("rule",.str w),("number",.int 0)]]):=by
 obtain⟨G,k1⟩:=Z5 h z (by omega) e
 rw[hr] at k1;exact⟨S++G,⟨G,rfl⟩,K5 w (Q_ hr) e.t h.a k1⟩
end
theorem GH {α:Type}{l:List α}{i:Int}(h0:0<=i)(h1:i<l.length):∃x∈l,jG l i=some x:=by
 obtain⟨j,hj⟩:=zbn h0;have EG:j<l.length:=by omega
 exact⟨l[j],zcQ EG,by rw[hj];exact h_ (zag EG)⟩
theorem iR {l:List Str}{i:Int}(h0:0<=i)(h1:i<l.length):∃x∈l,jG (l.map Tr.str) i=some (.str x):=by
 obtain⟨t,ht,e⟩:=GH (l:=l.map Tr.str) h0 (by simpa using h1)
 obtain⟨x,hx,rfl⟩:=zba.mp ht;exact⟨x,hx,e⟩
theorem Wq {l:List Str}{n m:Int}(hm:m=l.length)(h0:0<m):∃x∈l,jG (l.map Tr.str) (n % m)=some (.str x):=iR (zcF _ (by omega)) (by rw[<-hm];exact zcd _ h0)
noncomputable def zU:List Str:=["bat","bat","bat","bye","leg","wide","no","nobye"]
def Jq (m:M):Str:=match mz m with|none => "" |some s=>mH m s
structure dP where
 a:Int
 b:Int
 c:Int
 f:Str
 o:Str
 w:Str
 e:B
 q:Str
def dP.t (r:dP):Tr:=.tp [.int r.a,.int r.b,.int r.c,.str r.f,.str r.o,.str r.w,r.e.t,.str r.q]
section
variable {S:Cs}{m:M}{y:Ly}{n:Nat}
theorem zV (h:eS S m y)(z:Sz m n):DZ [.hd y.a] S = .ok (cR m.t0 m.t1 m.p0 m.p1) S:=by
 unfold DZ;have ha:=h.a;unfold mF cR at *
 simp?[fx,ha]
theorem GI (z:Sz m n):f_ m=0\/f_ m=1:=by
 unfold f_;cases h:m.pl.getLast? with
 |none=>exact .inl rfl
 |some x=>exact z.bW x (List.mem_of_getLast? h)
theorem afW (z:Sz m n)(e:mz m=some s):s=0\/s=1:=by
 unfold mz at e
 have:=GI z
 repeat' split at e
 all_goals first | (cases e;done) | (cases e;omega)
theorem afX (h:eS S m y)(z:Sz m n)(hn:n<=1000):zL [.hd y.a] S = .ok (.str (Jq m)) S:=by
 unfold zL Jq;have k1:=Q0 h z hn;have ha:=h.a;unfold mF cR at *
 cases hq:mz m with
 |none=>rw[hq] at k1;simp?[fx,ha,k1,mJ]
 |some s =>
  rw[hq] at k1;have k2:=@ju m s (afW z hq)
  simp?[fx,ha,k1,mJ,k2]
theorem akX (h:eS S m y){rs:List dP}(hr:m.fN=rs.map dP.t):Je [.hd y.a] S = .ok (.ls m.fN) S:=by
 unfold Je;have ha:=h.a;have hl:=h.l;unfold mF at ha;refine pX (S1:=S) (t:=.ls m.fN) ?_ (zbZ ..) ?_
 ·simp?[fx,ha,hl]
 ·unfold CF
  have:Tr.az S.length (.ls m.fN)=true:=by
   rw[acB,zaQ,hr];intro t ht;obtain⟨r,_,rfl⟩:=zba.mp ht;unfold dP.t B.t;simp only[N7,HV,AL,acA,zbi,zbG,zbz]
  simp only[this];rfl
end
structure Dr (m:M) (d n:Nat):Prop where
 z:Sz m n
 hn:n<=1000
 p0:m.p0.length=d
 p1:m.p1.length=d
 d2:2<=d
 d11:d<=11
 rs:∃rs:List dP,m.fN=rs.map dP.t
noncomputable def EK:gW->Prop|.kO b=>b.k∈zU|_=>True
theorem qA (D:Dr m d n)(s:Int):(iG m s).length=d:=by
 unfold iG;split
 ·exact D.p0
 ·exact D.p1
theorem Jr (m:M):(lR m).fN=m.fN:=by unfold lR;split<;>rfl
theorem afY (m:M):(lR m).p0=m.p0:=by unfold lR;split<;>rfl
theorem afZ (m:M):(lR m).p1=m.p1:=by unfold lR;split<;>rfl
theorem Z6 (m:M)(a b:Str):(EI m a b).p0=m.p0.map (nR a b)/\(EI m a b).p1=m.p1.map (nR a b)/\(EI m a b).fN=m.fN:=by unfold EI;split<;>exact⟨rfl,rfl,rfl⟩
theorem Z7 (m:M):(EJ m).p0=m.p0/\(EJ m).p1=m.p1/\(EJ m).fN=m.fN:=by unfold EJ;split<;>exact⟨rfl,rfl,rfl⟩
theorem af0 (m:M)(x:I)(e:gW):(jw m x e).p0=m.p0/\(jw m x e).p1=m.p1/\((jw m x e).fN=m.fN\/∃b,(jw m x e).fN=m.fN++[iQ m x b]):=by
 unfold jw;split
 ·exact⟨rfl,rfl,.inr ⟨_,rfl⟩⟩
 all_goals exact⟨rfl,rfl,.inl rfl⟩
theorem akY (m:M)(e:gW):(LV m e).p0.length=m.p0.length/\(LV m e).p1.length=m.p1.length/\((LV m e).fN=m.fN\/∃x b,(LV m e).fN=m.fN++[iQ m x b]):=by
 have BH:∀e,(match fX m with|some x=>jw m x e|none=>m).p0.length=m.p0.length/\(match fX m with|some x=>jw m x e|none=>m).p1.length=m.p1.length/\((match fX m with|some x=>jw m x e|none=>m).fN=m.fN\/∃x b,(match fX m with|some x=>jw m x e|none=>m).fN=m.fN++[iQ m x b]):=λe=>by
  cases fX m with
  |none=>exact⟨rfl,rfl,.inl rfl⟩
  |some x =>
   obtain⟨h1,h2,h3⟩:=af0 m x e;exact⟨by simp only[h1],by simp only[h2],h3.imp id λ⟨b,q⟩=>⟨x,b,q⟩⟩
 cases e with
 |cW t f o b=>exact⟨rfl,rfl,.inl rfl⟩
 |swap a b =>
  obtain⟨h1,h2,h3⟩:=Z6 m a b;show (EI m a b).p0.length=_/\(EI m a b).p1.length=_/\((EI m a b).fN=_\/∃x c,(EI m a b).fN=m.fN++[iQ m x c])
  rw[h1,h2,h3];exact⟨by simp,by simp,.inl rfl⟩
 |g_=>exact⟨rfl,rfl,.inl rfl⟩
 |mw =>
  obtain⟨h1,h2,h3⟩:=Z7 m;show (EJ m).p0.length=_/\(EJ m).p1.length=_/\((EJ m).fN=_\/∃x c,(EJ m).fN=m.fN++[iQ m x c])
  rw[h1,h2,h3];exact⟨rfl,rfl,.inl rfl⟩
 |kO b=>exact BH _
 |sN b=>exact BH _
 |qv b=>exact BH _
 |qw b=>exact BH _
 |fR=>exact BH _
theorem Dr.aoJ (D:Dr m d n)(e:gW)(z:Sz (oK m e) (n+1))(hn:n+1<=1000):Dr (oK m e) d (n+1):=by
 obtain⟨h1,h2,h3⟩:=akY m e;refine⟨z,hn,?_,?_,D.d2,D.d11,?_⟩
 ·unfold oK;rw[afY,h1,D.p0]
 ·unfold oK;rw[afZ,h2,D.p1]
 ·unfold oK
  rw[Jr];obtain⟨rs,er⟩:=D.rs;rcases h3 with q|⟨x,b,q⟩
  ·exact⟨rs,by rw[q,er]⟩
  ·refine⟨rs++[⟨(m.pl.length:Int) - 1,x.ov,x.ba,x.o7,x.rY,x.wR,b,x.out b⟩],?_⟩
   rw[q,er,zaG];rfl
theorem Dr.mono (D:Dr m d n)(h:n<=n')(hn:n'<=1000):Dr m d n':=⟨D.z.mono h,hn,D.p0,D.p1,D.d2,D.d11,D.rs⟩
def Ej (c a l n b:Tr):List (dF×Tr):=[(.inr (Str.ofString "cells"),c),(.inr (Str.ofString "at"),a),(.inr (Str.ofString "left"),l),(.inr (Str.ofString "number"),n),(.inr (Str.ofString "digits"),b)]
section
variable {c a l n b t:Tr}
theorem Ra:aN (.inr (Str.ofString "cells")) (Ej c a l n b)=some c:=by kernel_rfl
theorem Rb:aN (.inr (Str.ofString "at")) (Ej c a l n b)=some a:=by kernel_rfl
theorem Rc:aN (.inr (Str.ofString "left")) (Ej c a l n b)=some l:=by kernel_rfl
theorem Rf:aN (.inr (Str.ofString "number")) (Ej c a l n b)=some n:=by kernel_rfl
theorem Rg:aN (.inr (Str.ofString "digits")) (Ej c a l n b)=some b:=by kernel_rfl
theorem Rh:gy (Ej c a l n b) (.inr (Str.ofString "at")) t=Ej c t l n b:=by kernel_rfl
theorem Ri:gy (Ej c a l n b) (.inr (Str.ofString "left")) t=Ej c a t n b:=by kernel_rfl
theorem Rj:gy (Ej c a l n b) (.inr (Str.ofString "number")) t=Ej c a l t b:=by kernel_rfl
theorem BA:((Ej c a l n b).length<sizeLine)=True:=eq_true (by show 5<sizeLine;decide)
theorem Js:fm [] [(.inr (Str.ofString "cells"),c),(.inr (Str.ofString "at"),a),(.inr (Str.ofString "left"),l),(.inr (Str.ofString "number"),n),(.inr (Str.ofString "digits"),b)]=Ej c a l n b:=by kernel_rfl
end
def cA (S:Cs)(d k:Nat):Prop:=∃(cs:List Int) (a l n:Int) (b:Bool),S[d]? = some (.iy (Ej (.ls (cs.map .int)) (.int a) (.int l) (.int n) (.bl b)))/\cs≠[]/\cs.length<=1000/\0<=a/\a<=k
theorem cA.mono (h:cA S d k)(hk:k<=j):cA S d j:=by
 obtain⟨cs,a,l,n,b,h1,h2,h3,h4,h5⟩:=h;exact⟨cs,a,l,n,b,h1,h2,h3,h4,by omega⟩
theorem cA.lt (h:cA S d k):d<S.length:=by
 obtain⟨cs,a,l,n,b,h1,_⟩:=h;exact FY h1
theorem cA.sI (h:cA S d k)(X:Cs):cA (S++X) d k:=by
 obtain⟨cs,a,l,n,b,h1,h2⟩:=h;exact⟨cs,a,l,n,b,AY h1 X,h2⟩
theorem cA.aoK (h:cA S d k)(hi:i≠d)(c:Ce):cA (S.set i c) d k:=by
 obtain⟨cs,a,l,n,b,h1,h2⟩:=h;exact⟨cs,a,l,n,b,FZ h1 hi,h2⟩
theorem af1 (h:cA S d k)(hk:k<1000000)(h0:0<many)(h1:many<1000000):∃(v:Int) (c:Ce),0<=v/\v<many/\bL [.hd d,.int many] S = .ok (.int v) (S.set d c)/\cA (S.set d c) d (k+1):=by
 obtain⟨cs,a,l,n,b,hd,o_,hl,ha,hak⟩:=h;have hs:∀c,(S.set d c)[d]? = some c:=λc=>uP (FY hd)
 have c1:(0<many)=True:=eq_true h0
 have c2:(many<1073741824)=True:=eq_true (by omega)
 have abq:=zdI.mpr o_;have c3:((0:Int)<(cs.length:Int))=True:=eq_true (by omega)
 have c4:(cs.length<=sizeLine)=True:=bK (by omega)
 have e1:Str.ofString "cells"=Str.ofString "cells" := rfl
 obtain⟨x,hx⟩:∃x,jG (cs.map Tr.int) ((a+1) % (cs.length:Int))=some (.int x):=by
  obtain⟨t,ht,e⟩:=HX (l:=cs.map Tr.int) (n:=a+1) (m:=(cs.length:Int)) (by simp) (by omega)
  obtain⟨x,_,rfl⟩:=zba.mp ht;exact⟨x,e⟩
 unfold bL;cases b with
 |true =>
  by_cases Nt:l - 1=0
  ·refine⟨n % many,_,zcF _ (by omega),zcd _ h0,by simp?[hd,hs,Ra,Rb,Rc,Rf,Rg,Rh,Ri,Rj,BA,c1,c2,c3,c4,Nt,hx,zeu];rfl,cs,a+1,_,_,true,hs _,o_,hl,by omega,by omega⟩
  ·refine⟨n % many,_,zcF _ (by omega),zcd _ h0,by simp?[hd,hs,Ra,Rb,Rc,Rf,Rg,Rh,Ri,Rj,BA,c1,c2,c3,c4,Nt,hx,zeu];rfl,cs,a,_,_,true,hs _,o_,hl,by omega,by omega⟩
 |false =>
  generalize hy:(x % 2147483629+(a+1) * (a+1) * 7919+11) * 48271 % 2147483647=y
  have hy0:0<=y:=by rw[<-hy];exact zcF _ (by decide)
  have hy1:y<2147483647:=by rw[<-hy];exact zcd _ (by decide)
  refine⟨y * y % 1999999973 / 7 % many,.iy (Ej (.ls (cs.map .int)) (.int (a+1)) (.int l) (.int n) (.bl false)),zcF _ (by omega),zcd _ h0,?_,cs,a+1,_,_,false,hs _,o_,hl,by omega,by omega⟩
  simp?[hd,hs,Ra,Rb,Rc,Rf,Rg,Rh,Ri,Rj,BA,c1,c2,c3,c4,hx,zeu];rw[Aw (by omega),hy,Aw (by omega)]
theorem Wr:(Tr.ls []).qQ=true:=by
 unfold Tr.qQ Tr.pS;rfl
theorem Rl:(Tr.ls []).dp<=50/\(Tr.ls []).dp≠0:=by
 unfold Tr.dp Tr.EA;decide
theorem af2 (h:vw 6 S t = .ls [])(hs:NO t (.ls [])=none):cC neg t (.ls []) S = .ok (.bl (!neg)) S:=by
 have e:vw 6 S (.ls []) = .ls []:=rfl
 have hc:vw 6 S t=vw 6 S (.ls [])/\(vw 6 S t).qQ=true/\(vw 6 S t).dp<=50/\(vw 6 S t).dp≠0:=by
  rw[h,e];exact⟨rfl,Wr,Rl.1,Rl.2⟩
 unfold cC;rw[hs];exact if_pos hc
theorem af3:CO neg (.kl l) (.ls []) S = .ok (.bl (if neg=true then !l.isEmpty else l.isEmpty)) S:=by
 unfold CO;show (if l.length=0 then _ else _)=_
 cases l with
 |nil =>
  rw[if_pos (show ([]:List Tr).length=0 from rfl),af2 rfl rfl]
  cases neg<;>rfl
 |cons x r =>
  rw[if_neg (by simp)]
  cases neg<;>rfl
theorem Ws (ns:List Int)(B6:ns.length<=63)(S:Cs):∃c,DQ [.kl (ns.map .int)] S = .ok (.hd S.length) (S++[c])/\cA (S++[c]) S.length 0:=by
 unfold DQ;have e2:=λS=>af3 (neg:=false) (l:=ns.map Tr.int) (S:=S)
 have hd0:=Km S []
 have hs0:=λc=>HU S (Ce.iy []) c
 have hl0:=zan (as:=S) (bs:=[Ce.iy []])
 cases ns with
 |nil =>
  have c1:(0+1<=sizeLine)=True:=bK (by omega)
  have er:OC (.ls [.int 0]) (.int 1) S = .ok (.ls [.int 0]) S:=by kernel_rfl
  have ei:xM [.bl true] S = .ok (.int 1) S:=rfl
  have e3:CO false (.kl []) (.ls []) S = .ok (.bl true) S:=e2 S
  refine⟨.iy (Ej (.ls ([0].map .int)) (.int 0) (.int 60) (.int (0 / 2)) (.bl (decide ((0:Int) % 2=0)))),?_,[0],0,60,0 / 2,_,lG _ _,by simp,by simp,by omega,by omega⟩
  simp?[↓e3,↓er,↓ei,Js,hd0,hs0]
 |cons x r =>
  have e3:CO false (.kl ((x::r).map .int)) (.ls []) S = .ok (.bl false) S:=e2 S
  simp only[oh] at e3;have er:OC (.ls [.int 0]) (.int 0) S = .ok (.ls []) S:=by kernel_rfl
  have ei:xM [.bl false] S = .ok (.int 0) S:=rfl
  have hl:r.length+1<=63:=by simpa using B6
  have c1:(r.length+1<=sizeLine)=True:=bK (by omega)
  have c2:(r.length+1+0<=sizeLine)=True:=bK (by omega)
  refine⟨.iy (Ej (.ls ((x::r).map .int)) (.int 0) (.int 60) (.int (x / 2)) (.bl (decide (x % 2=0)))),?_,x::r,0,60,x / 2,_,lG _ _,by simp,by simp;omega,by omega,by omega⟩
  simp?[↓e3,↓er,↓ei,c1,c2,Js,hd0,hs0,zax]
structure Dk (S S':Cs) (d k:Nat):Prop where
 on:bF [d] S S'
 gR:cA S' d k
theorem Dk.tr (a:Dk S S1 d k)(b:Dk S1 S2 d k'):Dk S S2 d k':=⟨a.on.trans b.on,b.gR⟩
theorem Dk.mono (a:Dk S S' d k)(h:k<=k'):Dk S S' d k':=⟨a.on,a.gR.mono h⟩
theorem Dk.get (a:Dk S S' d k)(h:S[j]? = some c)(hj:j≠d):S'[j]? = some c:=a.on.at h (by simpa using hj)
theorem d8 (h:cA S d k)(hk:k<900000)(h0:0<many)(h1:many<1000000):∃(v:Int) (S':Cs),0<=v/\v<many/\bL [.hd d,.int many] S = .ok (.int v) S'/\Dk S S' d (k+1):=by
 obtain⟨v,c,v0,v1,e,hD⟩:=af1 h (by omega) h0 h1
 exact⟨v,S.set d c,v0,v1,e,⟨bF.set (by simp),hD⟩⟩
theorem Rm (h:cA S d k)(hk:k<800000):∃(u:U) (S':Cs),Iw [.hd d] S = .ok u.t S'/\Dk S S' d (k+12)/\2<=u.d/\u.d<=11/\u.i<=2:=by
 obtain⟨a1,S1,l1,m1,e1,D1⟩:=d8 h (by omega) (many:=6) (by decide) (by decide)
 obtain⟨a2,S2,l2,m2,e2,D2⟩:=d8 D1.gR (by omega) (many:=5) (by decide) (by decide)
 obtain⟨a3,S3,l3,m3,e3,D3⟩:=d8 D2.gR (by omega) (many:=3) (by decide) (by decide)
 obtain⟨a4,S4,l4,m4,e4,D4⟩:=d8 D3.gR (by omega) (many:=3) (by decide) (by decide)
 obtain⟨a5,S5,l5,m5,e5,D5⟩:=d8 D4.gR (by omega) (many:=3) (by decide) (by decide)
 have D05:Dk S S5 d (k+5):=(((D1.tr D2).tr D3).tr D4).tr D5
 have hd5:=D5.gR.lt;obtain⟨S6,hS6⟩:∃S6,S6=S5++[Ce.bD [.int (1+a1),.int a2,.int a3,.int a4,.int a5]]:=⟨_,rfl⟩
 have c6:S6[S5.length]? = some (.bD [.int (1+a1),.int a2,.int a3,.int a4,.int a5]):=by rw[hS6];exact lG _ _
 have D06:Dk S S6 d (k+5):=by rw[hS6];exact⟨D05.on.trans bF.sI,D05.gR.sI _⟩
 obtain⟨a6,S7,l6,m6,e6,D7⟩:=d8 D06.gR (by omega) (many:=4) (by decide) (by decide)
 have c7:=D7.get c6 (by omega)
 have D07:=D06.tr D7;have key:∃(x4 x5:Int) (S8:Cs),(Dk S S8 d (k+8))/\S8[S5.length]? = some (.bD [.int (1+a1),.int a2,.int a3,.int x4,.int x5])/\(∀ τ,τ=[some (Tr.hd d),some (.hd S5.length),none]->(cH (mB (ai (cC false) (dR 2 bL (af (aa 0) (af (mC (.int 4)) ak))) (mC (.int 0)))) (Kd (kD (af (dR 2 bL (af (aa 0) (af (mC (.int 10)) ak))) (af (dR 2 bL (af (aa 0) (af (mC (.int 10)) ak))) ak))) (OJ (aa 1) (mC (.int 3)) (mC (.int 5)))) aD) τ S6 = .nx τ S8):=by
  by_cases q:a6=0
  ·obtain⟨b1,T1,n1,p1,f1,E1⟩:=d8 D07.gR (by omega) (many:=10) (by decide) (by decide)
   obtain⟨b2,T2,n2,p2,f2,E2⟩:=d8 E1.gR (by omega) (many:=10) (by decide) (by decide)
   have c8:=E2.get (E1.get c7 (by omega)) (by omega)
   refine⟨b1,b2,T2.set S5.length (.bD [.int (1+a1),.int a2,.int a3,.int b1,.int b2]),?_,uP (FY c8),?_⟩
   ·have D:=(D07.tr E1).tr E2
    exact⟨D.on.fresh (F':=[S5.length]) (bF.set (by simp)) (λj hj=>by rw[zaN] at hj;subst hj;exact .inr D05.on.1),(D.gR.aoK (by omega) _).mono (by omega)⟩
   ·rintro τ rfl
    have hz:(5+2<=sizeLine)=True:=bK (by decide)
    simp?[e6,q,f1,f2,OJ,c8,hz,List.take_succ_cons,List.take_zero,List.drop_succ_cons,List.drop_nil,List.drop_zero,zbY,BI]
  ·refine⟨a4,a5,S7,D07.mono (by omega),c7,?_⟩
   rintro τ rfl
   simp?[e6,q]
 obtain⟨x4,x5,S8,D8,c8,f8⟩:=key;have f8:=f8 _ rfl;generalize hI:cH (mB (ai (cC false) (dR 2 bL (af (aa 0) (af (mC (.int 4)) ak))) (mC (.int 0)))) (Kd (kD (af (dR 2 bL (af (aa 0) (af (mC (.int 10)) ak))) (af (dR 2 bL (af (aa 0) (af (mC (.int 10)) ak))) ak))) (OJ (aa 1) (mC (.int 3)) (mC (.int 5)))) aD=IF at *
 obtain⟨a7,S9,l7,m7,e7,D9⟩:=d8 D8.gR (by omega) (many:=4) (by decide) (by decide)
 obtain⟨a8,S10,l8,m8,e8,D10⟩:=d8 D9.gR (by omega) (many:=8) (by decide) (by decide)
 obtain⟨a9,S11,l9,m9,e9,D11⟩:=d8 D10.gR (by omega) (many:=2) (by decide) (by decide)
 obtain⟨a10,S12,l10,m10,e10,D12⟩:=d8 D11.gR (by omega) (many:=2) (by decide) (by decide)
 have c12:=D12.get (D11.get (D10.get (D9.get c8 (by omega)) (by omega)) (by omega)) (by omega)
 have hat:∃sd:Int,2<=sd/\sd<=11/\jG [Tr.int (2+a7),.int 11] (if a8=0 then 1 else 0)=some (.int sd):=by
  by_cases q:a8=0
  ·exact⟨11,by decide,by decide,by rw[if_pos q];rfl⟩
  ·exact⟨2+a7,by omega,by omega,by rw[if_neg q];rfl⟩
 obtain⟨sd,s2,s11,hat⟩:=hat;refine⟨⟨1+a1,a2,a3,x4,x5,sd,1+a9,a10 * 5⟩,S12,?_,(((((D8.tr D9).tr D10).tr D11).tr D12)).mono (by omega),s2,s11,by show 1+a9<=2;omega⟩
 unfold Iw U.t;rw[hI];have hz:(5+3<=sizeLine)=True:=bK (by decide)
 have gt:∀(l:List Tr) (S:Cs),qU [.ls l] S = .ok (.tp l) S:=λ_ _=>rfl
 simp?[e1,e2,e3,e4,e5,<-hS6,f8,e7,e8,e9,e10,c12,hat,hz,gt]
noncomputable def K9:Str:= "abcdfghjklmp"
theorem Wt (i:Int):∃c,jG K9.cps.toList (i % 12)=some c:=by
 obtain⟨c,_,e⟩:=HX (l:=K9.cps.toList) (n:=i) (m:=12) (by decide +kernel) (by decide)
 exact⟨c,e⟩
theorem akZ {v:Int}(h0:0<=v)(h1:v<3):(pL (Str.ofString "t") (1+v).toNat).length<=9/\(Str.ofString "t").length * (1+v).toNat<=1000000:=by
 have h:∀n:Fin 5,(pL (Str.ofString "t") n).length<=9:=by decide +kernel
 have e:(Str.ofString "t").length=1:=by decide +kernel
 exact⟨h ⟨(1+v).toNat,by omega⟩,by rw[e];omega⟩
theorem ak0 {v:Int}(h0:0<=v)(h1:v<3):(pL (Str.ofString "v") v.toNat).length<=9/\(Str.ofString "v").length * v.toNat<=1000000:=by
 have h:∀n:Fin 5,(pL (Str.ofString "v") n).length<=9:=by decide +kernel
 have e:(Str.ofString "v").length=1:=by decide +kernel
 exact⟨h ⟨v.toNat,by omega⟩,by rw[e];omega⟩
theorem Rn {S:Cs}{d k:Nat}(h:cA S d k)(hk:k<700000)(sd:Nat)(h2:2<=sd)(h11:sd<=11):∃(t0 t1:Str) (p0 p1:List Str) (S':Cs),IA [.hd d,.int sd] S = .ok (cR t0 t1 p0 p1) S'/\Dk S S' d (k+30)/\p0.length=sd/\p1.length=sd:=by
 obtain⟨a1,S1,l1,m1,e1,D1⟩:=d8 h (by omega) (many:=12) (by decide) (by decide)
 have hr:(-4611686018427387904<=(sd:Int)/\(sd:Int)<4611686018427387904)=True:=eq_true (by omega)
 have hL:K9.length=12:=by decide +kernel
 have hat:=Wt;unfold IA;rw[show Str.ofString "abcdfghjklmp"=K9 from rfl];have hLl:(K9.length<=sizeLine)=True:=bK (by rw[hL];decide)
 have hv1:(Str.ofString "v").length=1:=by decide +kernel
 generalize K9=L at *
 simp?[e1,hr,zbs];generalize hZ:cV _ _ _ _ _ _ _ _=Z
 obtain⟨fq,aoR,S2,⟨_,⟨p0,rfl,lp0⟩,D2⟩,rfl⟩:=yS hZ (λi τ bO S'=>(∃v,τ=[some (.str L),some (.hd d),some (.int a1),v])/\(∃p:List Str,bO=p.map .str/\p.length=i)/\Dk S S' d (k+1+i)) (λ_ _ _ _ _=>trivial) ⟨⟨_,rfl⟩,⟨[],rfl,rfl⟩,D1⟩ (by rw[nh];omega) (by
  rintro i t τ bO S' ht ⟨⟨v,rfl⟩,⟨p,rfl,lp⟩,D⟩
  obtain⟨jD,rfl⟩:=uI ht;obtain⟨b,S3,b0,b1,eb,Db⟩:=d8 D.gR (by omega) (many:=3) (by decide) (by decide)
  obtain⟨c,ec⟩:=hat (a1+(i:Int))
  obtain⟨r1,r2⟩:=akZ b0 b1;have c1:(0<=1+b)=True:=eq_true (by omega)
  have c2:(1+b<1000000)=True:=eq_true (by omega)
  have c3:((Str.ofString "t").length * (1+b).toNat<=1000000)=True:=eq_true r2
  generalize hR:pL (Str.ofString "t") (1+b).toNat=R1 at *
  have c4:(R1.length+1<=sizeLine)=True:=bK (by omega)
  refine⟨[some (.str L),some (.hd d),some (.int a1),some (.int (0+(i:Int)))],.str (R1++⟨#[c]⟩),S3,rfl,?_,⟨_,rfl⟩,⟨p++[R1++⟨#[c]⟩],by simp,by simp[lp]⟩,(D.tr Db).mono (by omega)⟩
  simp?[eb,ec,hLl,c1,c2,c3,c4,Bq,hR])
 rw[nh] at lp0 D2;simp?[hr,zbs];generalize hZ:cV _ _ _ _ _ _ _ _=Z
 obtain⟨fq,aoR,S3,⟨_,⟨p1,rfl,lp1⟩,D3⟩,rfl⟩:=yS hZ (λi τ bO S'=>(∃v,τ=[some (.str L),some (.hd d),some (.int a1),v])/\(∃p:List Str,bO=p.map .str/\p.length=i)/\Dk S S' d (k+1+sd+i)) (λ_ _ _ _ _=>trivial) ⟨⟨_,rfl⟩,⟨[],rfl,rfl⟩,D2⟩ (by rw[nh];omega) (by
  rintro i t τ bO S' ht ⟨⟨v,rfl⟩,⟨p,rfl,lp⟩,D⟩
  obtain⟨jD,rfl⟩:=uI ht;obtain⟨b,S3,b0,b1,eb,Db⟩:=d8 D.gR (by omega) (many:=3) (by decide) (by decide)
  obtain⟨c,ec⟩:=hat (a1+(i:Int))
  obtain⟨r1,r2⟩:=ak0 b0 b1;have c1:(0<=b)=True:=eq_true (by omega)
  have c2:(b<1000000)=True:=eq_true (by omega)
  have c3:((Str.ofString "v").length * b.toNat<=1000000)=True:=eq_true r2
  generalize hR:pL (Str.ofString "v") b.toNat=R1 at *
  have c4:(1+1+R1.length<=sizeLine)=True:=bK (by omega)
  have c5:(1+1<=sizeLine)=True:=bK (by decide)
  rw[hv1] at c3;refine⟨[some (.str L),some (.hd d),some (.int a1),some (.int (0+(i:Int)))],.str (Str.ofString "v"++⟨#[c]⟩++R1),S3,rfl,?_,⟨_,rfl⟩,⟨p++[Str.ofString "v"++⟨#[c]⟩++R1],by simp,by simp[lp]⟩,(D.tr Db).mono (by omega)⟩
  simp?[eb,ec,hLl,c1,c2,c3,c4,c5,Bq,VR,hv1,hR])
 rw[nh] at lp1 D3;obtain⟨a2,S4,l2,m2,e2,D4⟩:=d8 D3.gR (by omega) (many:=2) (by decide) (by decide)
 obtain⟨x,_,ex⟩:=iR (l:=p0) (i:=0) (by decide) (by omega)
 obtain⟨y,p1',hy⟩:∃y p',p1=p'++[y]:=by
  rcases zci p1 with q|⟨p',y,q⟩
  ·rw[q] at lp1;simp at lp1;omega
  ·exact⟨y,p',by rw[q,List.concat_eq_append]⟩
 have ey:jG (p1.map Tr.str) (-1)=some (.str y):=by rw[hy,zaG];exact kR _ _
 by_cases q:a2=0
 ·refine⟨Str.ofString "tz",y,p0,p1,S4,?_,(D3.tr D4).mono (by omega),lp0,lp1⟩
  unfold cR;simp?[e2,q,ex,ey,Az]
 ·refine⟨x,Str.ofString "vx",p0,p1,S4,?_,(D3.tr D4).mono (by omega),lp0,lp1⟩
  unfold cR;simp?[e2,q,ex]
theorem Jt (h:cA S d k)(hk:k<700000)(f o:Str):∃(b:B) (S':Cs),Jb [.hd d,.ls [.str f,.str o]] S = .ok b.t S'/\Dk S S' d (k+5)/\b.k∈zU:=by
 obtain⟨a1,S1,l1,m1,e1,D1⟩:=d8 h (by omega) (many:=8) (by decide) (by decide)
 obtain⟨a2,S2,l2,m2,e2,D2⟩:=d8 D1.gR (by omega) (many:=12) (by decide) (by decide)
 obtain⟨a3,S3,l3,m3,e3,D3⟩:=d8 D2.gR (by omega) (many:=9) (by decide) (by decide)
 have Wu:=(D1.tr D2).tr D3
 obtain⟨kd,hkd,ek⟩:=iR (l:=zU) (i:=a1) l1 m1
 obtain⟨t,ht,er⟩:=GH (l:=[Tr.int 0,.int 0,.int 1,.int 1,.int 2,.int 3,.int 4,.int 4,.int 6,.int 6,.int 5,.int 9]) (i:=a2) l2 m2
 obtain⟨r,rfl⟩:∃r,t = .int r:=by
  simp only[zam,zav,or_false] at ht;rcases ht with rfl|rfl|rfl|rfl|rfl|rfl|rfl|rfl|rfl|rfl|rfl|rfl<;>exact⟨_,rfl⟩
 have ek':jG [Tr.str "bat",.str "bat",.str "bat",.str "bye",.str "leg",.str "wide",.str "no",.str "nobye"] a1=some (.str kd):=ek
 unfold Jb;simp?[e1,e2,e3,ek',er];clear e1 e2 e3 ek ek' er ht
 by_cases q0:a3=0
 ·obtain⟨a4,S4,l4,m4,e4,D4⟩:=d8 Wu.gR (by omega) (many:=2) (by decide) (by decide)
  obtain⟨a5,S5,l5,m5,e5,D5⟩:=d8 D4.gR (by omega) (many:=2) (by decide) (by decide)
  obtain⟨w,_,ew⟩:=iR (l:=[f,o]) (i:=a4) l4 m4
  obtain⟨en,_,ee⟩:=iR (l:=["strike","other"]) (i:=a5) l5 m5
  simp only[oh,Ii] at ew ee;refine⟨⟨kd,r,false,"run",w,en⟩,S5,?_,((Wu.tr D4).tr D5).mono (by omega),hkd⟩
  unfold B.t;simp?[q0,e4,e5,ew,ee]
 ·by_cases q1:a3=1/\kd="bat"
  ·obtain⟨a4,S4,l4,m4,e4,D4⟩:=d8 Wu.gR (by omega) (many:=5) (by decide) (by decide)
   obtain⟨w,_,ew⟩:=iR (l:=["bowled","caught","before","stumped","hit"]) (i:=a4) l4 m4
   simp only[oh,Ii] at ew;refine⟨⟨kd,0,false,w,"",""⟩,S4,?_,(Wu.tr D4).mono (by omega),hkd⟩
   obtain⟨q1,q2⟩:=q1;subst q2;unfold B.t;simp?[q1,e4,ew]
  ·by_cases q2:a3=1/\kd="wide"
   ·obtain⟨a4,S4,l4,m4,e4,D4⟩:=d8 Wu.gR (by omega) (many:=2) (by decide) (by decide)
    obtain⟨w,_,ew⟩:=iR (l:=["stumped","hit"]) (i:=a4) l4 m4
    simp only[oh,Ii] at ew;refine⟨⟨kd,0,false,w,"",""⟩,S4,?_,(Wu.tr D4).mono (by omega),hkd⟩
    obtain⟨q2,q3⟩:=q2;subst q3;have nwb:¬ (Str.ofString "wide"=Str.ofString "bat"):=by decide +kernel
    unfold B.t;simp?[q2,e4,ew,nwb]
   ·obtain⟨a4,S4,l4,m4,e4,D4⟩:=d8 Wu.gR (by omega) (many:=4) (by decide) (by decide)
    generalize hO:W6 _ _=O
    have hR:∃ ρ:Bool,∀x0 x1 x4 x5,O [x0,x1,some (.str kd),some (.int r),x4,x5] S3 = .ok (.bl ρ) S3:=by
     subst hO;by_cases r4:r=4
     ·exact⟨true,λx0 x1 x4 x5=>by simp?[r4,W6,lz]⟩
     ·by_cases r6:r=6
      ·refine⟨decide (kd="bat" \/ kd="no"),λx0 x1 x4 x5=>?_⟩
       simp?[r4,r6,W6,lz,V0,bX,zbi,zbG,zbz]
      ·exact⟨false,λx0 x1 x4 x5=>by simp?[r4,r6,W6,lz]⟩
    obtain⟨ρ,hR⟩:=hR;have wX:∀(ρ:Bool),(∀x0 x1 x4 x5,O [x0,x1,some (.str kd),some (.int r),x4,x5] S3 = .ok (.bl ρ) S3)->∃(c:Bool) (S':Cs),Dk S S' d (k+5)/\(ao (br 5 O) (aE (dm (af (mC (.str "ball")) (af (aa 2) (af (aa 3) (af (lz (aa 5) (ai gGt (dR 2 bL (af (aa 0) (af (mC (.int 4)) ak))) (mC (.int 0)))) (af (mC (.str "")) (af (mC (.str "")) (af (mC (.str "")) ak)))))))))) [some (.hd d),some (.ls [.str f,.str o]),some (.str kd),some (.int r),some (.int a3),none] S3 = .rt (B.t ⟨kd,r,c,"","",""⟩) S':=λρ hR=>by
     unfold B.t;cases ρ with
     |true=>exact⟨decide (0<a4),S4,(Wu.tr D4).mono (by omega),by simp?[hR,lz,e4,gGt,LO]⟩
     |false=>exact⟨false,S3,Wu.mono (by omega),by simp?[hR,lz]⟩
    obtain⟨c,S',Dx,hx⟩:=wX ρ hR;refine⟨⟨kd,r,c,"","",""⟩,S',?_,Dx,hkd⟩
    generalize hK:ao (br 5 O) _=K at *
    by_cases q3:a3=1
    ·have k1:¬ kd="bat" := λz=>q1 ⟨q3,z⟩
     have k2:¬ kd="wide" := λz=>q2 ⟨q3,z⟩
     subst q3;simp?[k1,k2,hx]
    ·simp?[q0,q3,hx]
section
variable {S:Cs}{m:M}{y:Ly}{d k n dd:Nat}
theorem Dk.mat (h:eS S m y)(D:Dk S S' d k)(hd:d∉fp y):eS S' m y:=h.only D.on λj hj q=>by rw[zaN] at q;subst q;exact hd hj
theorem GJ (h:eS S m y)(D:Dr m dd n)(hD:cA S d k)(hk:k<600000)(hd:d∉fp y):∃(e:gW) (S':Cs),Ja [.hd d,.hd y.a] S = .ok e.t S'/\Dk S S' d (k+5)/\EK e:=by
 have hpl:=zV h D.z;have ha:=h.a;obtain⟨a1,S1,l1,m1,e1,D1⟩:=d8 hD (by omega) (many:=4) (by decide) (by decide)
 unfold mF at ha;unfold Ja;by_cases q1:a1=0
 ·refine⟨.g_,S1,?_,D1.mono (by omega),trivial⟩
  generalize cR m.t0 m.t1 m.p0 m.p1=sT at *
  simp?[fx,ha,hpl,e1,q1,gW.t]
 ·obtain⟨a2,S2,l2,m2,e2,D2⟩:=d8 D1.gR (by omega) (many:=2) (by decide) (by decide)
  have D02:=D1.tr D2;have h2:=D02.mat h hd;have ht:=afX h2 D.z D.hn;have RV:=h2.a;unfold mF at RV;generalize hI:cH (mB (ai (cC true) (aO "Match" "turn" 1 zL (aa 1) ak) (mC (.str "")))) _ _=IF
  have key:∃j:Int,(j=0\/j=1)/\IF [some (.hd d),some (.hd y.a),some (cR m.t0 m.t1 m.p0 m.p1),some (.int a2),none,none,none] S2 = .nx [some (.hd d),some (.hd y.a),some (cR m.t0 m.t1 m.p0 m.p1),some (.int j),none,none,none] S2:=by
   subst hI;by_cases q:Jq m=""
   ·exact⟨a2,by omega,by simp?[fx,RV,ht,q]⟩
   ·by_cases q2:Jq m=m.t1
    ·refine⟨1,.inr rfl,?_⟩
     rw[q2] at ht q;unfold cR;simp?[fx,RV,ht,q]
    ·refine⟨0,.inl rfl,?_⟩
     unfold cR;simp?[fx,RV,ht,q,q2]
  obtain⟨j,j01,hIF⟩:=key;have s1:=@ju m j j01
  have s2:=@ju m (1 - j) (by omega)
  have p1:=qA D j;have p2:=qA D (1 - j)
  have d2:=D.d2;have d11:=D.d11;generalize mH m j=tj at *
  generalize mH m (1 - j)=tk at *
  generalize iG m j=A at *
  generalize iG m (1 - j)=B at *
  obtain⟨a3,S3,l3,m3,e3,D3⟩:=d8 D02.gR (by omega) (many:=(A.length:Int)) (by omega) (by omega)
  obtain⟨a4,S4,l4,m4,e4,D4⟩:=d8 D3.gR (by omega) (many:=(B.length:Int)) (by omega) (by omega)
  obtain⟨x1,_,f1⟩:=iR (l:=A) (i:=a3) l3 m3
  obtain⟨x2,_,f2⟩:=Wq (l:=A) (n:=a3+1) (m:=(A.length:Int)) rfl (by omega)
  obtain⟨x3,_,f3⟩:=iR (l:=B) (i:=a4) l4 m4
  have z1:(A.length<=sizeLine)=True:=bK (by omega)
  have z2:(B.length<=sizeLine)=True:=bK (by omega)
  have z3:(0<(A.length:Int))=True:=eq_true (by omega)
  have z4:((A.length:Int)<1073741824)=True:=eq_true (by omega)
  refine⟨.cW tj x1 x2 x3,S4,?_,((D02.tr D3).tr D4).mono (by omega),trivial⟩
  unfold cR at *
  simp?[fx,ha,hpl,e1,q1,e2,hIF,s1,s2,e3,e4,f1,f2,f3,z1,z2,z3,z4,zad,gW.t]
end
noncomputable def K_:Str:= "abcdefghij"
theorem Ro:(K_.cps.toList.length:Int)=10:=by decide +kernel
theorem Wv (h0:0<=i)(h1:i<10):∃c,jG K_.cps.toList i=some c:=by
 obtain⟨c,_,e⟩:=GH (l:=K_.cps.toList) (i:=i) h0 (by rw[Ro];exact h1)
 exact⟨c,e⟩
section
variable {S:Cs}{m:M}{y:Ly}{d k n dd:Nat}
theorem Rp (h:eS S m y)(D:Dr m dd n)(hD:cA S d k)(hk:k<500000)(hd:d∉fp y):∃(e:gW) (S':Cs),D0 [.hd d,.hd y.a] S = .ok e.t S'/\Dk S S' d (k+9)/\EK e:=by
 have om:=Wi h D.z D.hn;have hpl:=zV h D.z;have ha:=h.a;unfold mF at ha;cases hg:fX m with
 |none =>
  obtain⟨e,S',e1,D1,hE⟩:=GJ h D hD (by omega) hd
  refine⟨e,S',?_,D1.mono (by omega),hE⟩
  have hs:rC m = .bq:=by unfold rC;rw[hg]
  rw[hs] at om;unfold D0;generalize e.t=et at *
  simp?[fx,ha,om,e1]
 |some x =>
  obtain⟨j,j01,hj⟩:∃j:Int,(j=0\/j=1)/\(if mH m x.bW=m.t1 then (1:Int) else 0)=j:=⟨_,by split<;>simp,rfl⟩
  have s1:=@ju m j j01
  have s2:=@ju m (1 - j) (by omega)
  have p1:=qA D j;have p2:=qA D (1 - j)
  have d2:=D.d2;have d11:=D.d11;have dp0:=D.p0;have z0:(m.p0.length<=sizeLine)=True:=bK (by omega)
  have s3:=λ(v:Int) (hv:v=0\/v=1)=>@ju m v hv
  have p3:=λ(v:Int)=>qA D v
  have hs:∃r0 r1 r2 r3,rC m = .tp [.str (mH m x.bW),.str x.o7,.str x.rY,.str x.wR,r0,r1,r2,r3]:=by
   unfold rC;rw[hg];exact⟨_,_,_,_,rfl⟩
  obtain⟨r0,r1,r2,r3,hs⟩:=hs;rw[hs] at om;clear hs
  have hgt:xM [.bl (decide (mH m x.bW=m.t1))] S = .ok (.int j) S:=by
   rw[<-hj];by_cases q:mH m x.bW=m.t1
   ·rw[decide_eq_true q,if_pos q];rfl
   ·rw[decide_eq_false q,if_neg q];rfl
  generalize mH m x.bW=ts at *
  generalize mH m j=tj at *
  generalize mH m (1 - j)=tk at *
  generalize iG m j=A at *
  generalize iG m (1 - j)=B at *
  have z1:(A.length<=sizeLine)=True:=bK (by omega)
  unfold cR at hpl;obtain⟨PL,hPL⟩:∃PL,PL=[Tr.tp [.str m.t0,.ls (m.p0.map .str)],Tr.tp [.str m.t1,.ls (m.p1.map .str)]]:=⟨_,rfl⟩
  have i1:jG PL 1=some (.tp [.str m.t1,.ls (m.p1.map .str)]):=by rw[hPL];rfl
  have i0:jG PL 0=some (.tp [.str m.t0,.ls (m.p0.map .str)]):=by rw[hPL];rfl
  rw[<-hPL] at hpl s1 s2;simp only[<-hPL] at s3;unfold D0;simp?[fx,ha,om,hpl,i1,↓hgt];by_cases q1:x.o7="" \/ x.rY=""
  ·obtain⟨a3,S3,l3,m3,e3,D3⟩:=d8 hD (by omega) (many:=(A.length:Int)) (by omega) (by omega)
   obtain⟨x1,_,f1⟩:=iR (l:=A) (i:=a3) l3 m3
   refine⟨.sN x1,S3,?_,D3.mono (by omega),trivial⟩
   by_cases q2:x.o7=""
   ·simp?[fx,q2,s1,e3,f1,z1,zad,gW.t]
   ·have q3:=q1.resolve_left q2
    simp?[fx,q2,q3,s1,e3,f1,z1,zad,gW.t]
  ·have q2:¬ x.o7="" := λz=>q1 (.inl z)
   have q3:¬ x.rY="" := λz=>q1 (.inr z)
   by_cases q4:x.wR=""
   ·obtain⟨a3,S3,l3,m3,e3,D3⟩:=d8 hD (by omega) (many:=(A.length:Int)) (by omega) (by omega)
    obtain⟨x1,_,f1⟩:=iR (l:=B) (i:=a3) l3 (by omega)
    refine⟨.qv x1,S3,?_,D3.mono (by omega),trivial⟩
    simp?[fx,q2,q3,q4,s1,s2,e3,f1,z1,zad,gW.t]
   ·obtain⟨a3,S3,l3,m3,e3,D3⟩:=d8 hD (by omega) (many:=24) (by decide) (by decide)
    simp?[fx,q2,q3,q4,e3];by_cases w0:a3=0
    ·obtain⟨a4,S4,l4,m4,e4,D4⟩:=d8 D3.gR (by omega) (many:=2) (by decide) (by decide)
     obtain⟨x1,f1⟩:∃x1,jG [Tr.str ts,.str x.o7,.str x.rY,.str x.wR,r0,r1,r2,r3] (1+a4)=some (.str x1):=by
      rcases (show a4=0\/a4=1 by omega) with rfl|rfl
      ·exact⟨_,rfl⟩
      ·exact⟨_,rfl⟩
     refine⟨.qw x1,S4,?_,(D3.tr D4).mono (by omega),trivial⟩
     simp?[fx,w0,e4,f1,gW.t]
    ·by_cases w1:a3=1
     ·obtain⟨a4,S4,l4,m4,e4,D4⟩:=d8 D3.gR (by omega) (many:=2) (by decide) (by decide)
      obtain⟨a5,S5,l5,m5,e5,D5⟩:=d8 D4.gR (by omega) (many:=(m.p0.length:Int)) (by omega) (by omega)
      obtain⟨a6,S6,l6,m6,e6,D6⟩:=d8 D5.gR (by omega) (many:=10) (by decide) (by decide)
      have s4:=s3 a4 (by omega)
      obtain⟨x1,_,f1⟩:=iR (l:=iG m a4) (i:=a5) l5 (by rw[p3];omega)
      obtain⟨c,f2⟩:=Wv l6 m6;have z2:(K_.length<=sizeLine)=True:=bK (by decide +kernel)
      have z3:((Str.ofString "wx").length+1<=sizeLine)=True:=bK (by decide +kernel)
      refine⟨.swap x1 (Str.ofString "wx"++⟨#[c]⟩),S6,?_,(((D3.tr D4).tr D5).tr D6).mono (by omega),trivial⟩
      rw[show Str.ofString "abcdefghij"=K_ from rfl];generalize K_=L at *
      simp?[fx,w1,e4,e5,e6,s4,i0,f1,f2,z0,z2,z3,Bq,zad,gW.t]
     ·by_cases w2:a3=2
      ·obtain⟨a4,S4,l4,m4,e4,D4⟩:=d8 D3.gR (by omega) (many:=3) (by decide) (by decide)
       by_cases w3:a4=0
       ·refine⟨.fR,S4,?_,(D3.tr D4).mono (by omega),trivial⟩
        simp?[fx,w2,w3,e4,gW.t]
       ·obtain⟨b,S5,e5,D5,hb⟩:=Jt D4.gR (by omega) x.o7 x.rY
        refine⟨.kO b,S5,?_,((D3.tr D4).tr D5).mono (by omega),hb⟩
        show _=R.ok b.t S5
        generalize b.t=bt at *
        simp?[fx,w2,w3,e4,e5]
      ·obtain⟨b,S5,e5,D5,hb⟩:=Jt D3.gR (by omega) x.o7 x.rY
       refine⟨.kO b,S5,?_,(D3.tr D5).mono (by omega),hb⟩
       show _=R.ok b.t S5
       generalize b.t=bt at *
       simp?[fx,w0,w1,w2,e5]
end
def Rk (r:dP):Prop:=r.e.k∈zU/\(r.q="" ↔ r.e.w="")
theorem Ww {x:I}{b:B}(h:x.i_ b=none):x.out b="" ↔ b.w="" := by
 unfold I.i_ at h;split at h
 ·cases h
 ·rename_i hg
  have hf:¬ x.o7="" := λz=>hg (by unfold I.R6 I.dB;exact decide_eq_true (.inl z.symm))
  have ho:¬ x.rY="" := λz=>hg (by unfold I.R6 I.dB;exact decide_eq_true (.inr z.symm))
  split at h
  ·cases h
  ·split at h
   ·cases h
   ·split at h
    ·cases h
    ·rename_i q
     unfold I.out;by_cases hr:b.w="run"
     ·rw[if_pos hr]
      have hs:x.dB b.ZW=true:=by
       cases hq:x.dB b.ZW
       ·exact absurd ⟨hr,hq⟩ q
       ·rfl
      have hs:=of_decide_eq_true hs;refine⟨λz=>?_,λz=>?_⟩
      ·rcases hs with k|k
       ·exact absurd (k.symm.trans z) hf
       ·exact absurd (k.symm.trans z) ho
      ·rw[hr] at z;exact absurd z (by decide +kernel)
     ·rw[if_neg hr]
      by_cases he:b.w=""
      ·rw[if_pos he];exact⟨λ_=>he,λ_=>rfl⟩
      ·rw[if_neg he];exact⟨λz=>absurd z hf,λz=>absurd z he⟩
structure Up (m:M) (rs:List dP):Prop where
 up:(rs.map (·.a)).Pairwise (· <= ·)
 bd:∀r∈rs,0<=r.a/\r.a<m.pl.length
 ru:m.ru.i<=2
 af4:m.pl.length<=4
theorem jQ {m:M}{x:I}(h:m.pl≠[]):(m.lQ x).pl.length=m.pl.length:=by
 have:=zdI.mpr h
 show (m.pl.dropLast++[x]).length=_
 simp
 omega
theorem qC (h:fX m=some x):m.pl≠[]:=λz=>by
 unfold fX at h;rw[z] at h;cases h
theorem Wx (m:M):(lR m).pl.length=m.pl.length/\(lR m).ru=m.ru:=by
 unfold lR;cases h:fX m with
 |none=>exact⟨rfl,rfl⟩
 |some x=>exact⟨jQ (qC h),rfl⟩
theorem af5 (m:M)(a b:Str):(EI m a b).pl.length=m.pl.length/\(EI m a b).ru=m.ru:=by
 unfold EI;cases h:fX m with
 |none=>exact⟨rfl,rfl⟩
 |some x=>exact⟨jQ (m:=xg m a b) (qC h),rfl⟩
theorem af6 (m:M):(EJ m).pl.length=m.pl.length/\(EJ m).ru=m.ru:=by
 unfold EJ;cases h:fX m with
 |none=>exact⟨rfl,rfl⟩
 |some x=>exact⟨jQ (m:=Oc m) (qC h),rfl⟩
theorem Rq {m:M}{x:I}(h:fX m=some x)(e:gW):(jw m x e).pl.length=m.pl.length/\(jw m x e).ru=m.ru:=by
 unfold jw;split
 ·exact⟨jQ (qC h),rfl⟩
 ·exact⟨jQ (qC h),rfl⟩
 ·exact⟨jQ (qC h),rfl⟩
 ·exact⟨jQ (qC h),rfl⟩
 ·exact⟨jQ (qC h),rfl⟩
 ·exact⟨rfl,rfl⟩
theorem Up.same (h:Up m rs)(e:m'.pl.length=m.pl.length/\m'.ru=m.ru):Up m' rs:=
 ⟨h.up,by rw[e.1];exact h.bd,by rw[e.2];exact h.ru,by rw[e.1];exact h.af4⟩
theorem Rr (hu:m.ru.i<=2)(hd:¬ oJ m=true)(hg:(fX m).isSome=false):m.pl.length+1<=4:=by
 unfold oJ at hd;rw[hg] at hd;split at hd
 ·exact absurd rfl hd
 ·rw[if_neg (by simp)] at hd
  split at hd
  ·omega
  ·have:¬ 2 * m.ru.i<=(m.pl.length:Int):=by simpa using hd
   omega
theorem Rt {m:M}{rs:List dP}{e:gW}(hl:m.fN=rs.map dP.t)(hk:∀r∈rs,Rk r)(hU:Up m rs)(hE:EK e)(hr:rD m e=none):∃GK:List dP,(oK m e).fN=GK.map dP.t/\(∀r∈GK,Rk r)/\Up (oK m e) GK:=by
 unfold oK;have wX:∀{m':M} {GK:List dP},Up m' GK->Up (lR m') GK:=λh=>h.same (Wx _)
 rw[Jr];unfold rD at hr;split at hr
 ·cases hr
 rename_i hnd;have hiu:∀e,Up (match fX m with|some x=>jw m x e|none=>m) rs:=λe=>by
  cases hg:fX m with
  |none=>exact hU
  |some x=>exact hU.same (Rq hg e)
 have BH:∀e,(∀x,(jw m x e).fN=m.fN)->(match fX m with|some x=>jw m x e|none=>m).fN=m.fN:=λe q=>by
  cases fX m with
  |none=>rfl
  |some x=>exact q x
 cases e with
 |cW t f o b =>
  have hr:jv m t f o b=none:=hr
  unfold jv at hr;split at hr
  ·cases hr
  ·rename_i hg
   have h4:=Rr hU.ru hnd (by simpa using hg)
   have el:(LV m (.cW t f o b)).pl.length=m.pl.length+1:=by show (m.pl++[_]).length=_;simp
   exact⟨rs,hl,hk,wX ⟨hU.up,λr hr=>by have:=hU.bd r hr;rw[el];omega,hU.ru,by rw[el];exact h4⟩⟩
 |swap a b=>exact⟨rs,by rw[<-hl];exact (Z6 m a b).2.2,hk,wX (hU.same (af5 m a b))⟩
 |g_=>exact⟨rs,hl,hk,wX (hU.same ⟨rfl,rfl⟩)⟩
 |mw=>exact⟨rs,by rw[<-hl];exact (Z7 m).2.2,hk,wX (hU.same (af6 m))⟩
 |sN n=>exact⟨rs,by rw[<-hl];exact BH _ λ_=>rfl,hk,wX (hiu _)⟩
 |qv n=>exact⟨rs,by rw[<-hl];exact BH _ λ_=>rfl,hk,wX (hiu _)⟩
 |qw n=>exact⟨rs,by rw[<-hl];exact BH _ λ_=>rfl,hk,wX (hiu _)⟩
 |fR=>exact⟨rs,by rw[<-hl];exact BH _ λ_=>rfl,hk,wX (hiu _)⟩
 |kO b =>
  have hr:d7 m (.kO b)=none:=hr
  unfold d7 at hr;show ∃GK:List dP,(match fX m with|some x=>jw m x (.kO b)|none=>m).fN=GK.map dP.t/\(∀r∈GK,Rk r)/\Up (lR (match fX m with|some x=>jw m x (.kO b)|none=>m)) GK
  cases hg:fX m with
  |none=>rw[hg] at hr;cases hr
  |some x =>
   rw[hg] at hr;have hr:x.i_ b=none:=hr
   refine⟨rs++[⟨(m.pl.length:Int) - 1,x.ov,x.ba,x.o7,x.rY,x.wR,b,x.out b⟩],?_,λr xO=>?_,?_⟩
   ·show m.fN++[iQ m x b]=_
    rw[hl,zaG];rfl
   ·rcases zbt.mp xO with q|q
    ·exact hk r q
    ·rw[zaN] at q
     subst q;exact⟨hE,Ww hr⟩
   ·have el:=Rq hg (.kO b)
    have abq:=zdI.mpr (qC hg)
    refine wX ⟨?_,λr hr=>?_,by rw[el.2];exact hU.ru,by rw[el.1];exact hU.af4⟩
    ·rw[zaG,zdE]
     refine⟨hU.up,by simp,λa ha c hc=>?_⟩
     obtain⟨r,hr,rfl⟩:=zba.mp ha
     have:=hU.bd r hr
     have hc:c=(m.pl.length:Int) - 1:=by simpa using hc
     omega
    ·rw[el.1]
     rcases zbt.mp hr with q|q
     ·exact hU.bd r q
     ·rw[zaN] at q
      subst q;show 0<=(m.pl.length:Int) - 1/\(m.pl.length:Int) - 1<m.pl.length
      omega
theorem cA.on (h:cA S d k)(o:bF F S S')(hd:d∉F):cA S' d k:=by
 obtain⟨cs,a,l,n,b,h1,h2⟩:=h;exact⟨cs,a,l,n,b,o.at h1 hd,h2⟩
structure Pl (S:Cs) (d k dd N a:Nat) (m:M) (y:Ly) (rs:List dP):Prop where
 gR:eS S m y
 a:y.a=a
 dr:cA S d k
 nd:d∉fp y
 D:Dr m dd N
 fN:m.fN=rs.map dP.t
 rk:∀r∈rs,Rk r
 up:Up m rs
theorem Ru (hD:cA S d k)(hk:k<1000):∃(u:U) (S':Cs) (dd N a:Nat) (m:M) (y:Ly) (rs:List dP),Jc [.hd d] S = .ok (.ls [u.t,.hd a]) S'/\Pl S' d 10000 dd N a m y rs:=by
 obtain⟨u,S1,e1,D1,u2,u11,ui⟩:=Rm hD (by omega)
 obtain⟨sd,Wa⟩:=zbn (by omega:0<=u.d)
 have hd1:=D1.gR.lt;obtain⟨t0,t1,p0,p1,S2,e2,D2,l0,l1⟩:=Rn D1.gR (by omega) sd (by omega) (by omega)
 have D02:=D1.tr D2;have hd2:=D02.gR.lt;have e3:=afU u t0 t1 p0 p1 (by omega) (by omega) S2
 have hM:=Wg S2 u t0 t1 p0 p1;have hZ:=Wh u t0 t1 p0 p1 (by omega) (by omega)
 have Dr0:Dr (iH u t0 t1 p0 p1) sd 22:=⟨hZ,by decide,l0,l1,by omega,by omega,[],rfl⟩
 have up0:Up (iH u t0 t1 p0 p1) []:=⟨by simp,λr hr=>by simp at hr,ui,by show 0<=4;omega⟩
 have lg0:(iH u t0 t1 p0 p1).fN=([]:List dP).map dP.t:=rfl
 have D3:cA (zR S2 (iH u t0 t1 p0 p1)) d (k+12+30):=D02.gR.sI _
 have nd0:d∉fp (wW S2.length):=λq=>by simp[fp,wW] at q;omega
 generalize iH u t0 t1 p0 p1=m0 at *
 generalize zR S2 m0=S3 at *
 obtain⟨a4,S4,l4,m4,e4,D4⟩:=d8 D3 (by omega) (many:=4) (by decide) (by decide)
 obtain⟨N,hN,eN⟩:∃N:Nat,N<=90/\jG [Tr.int 12,.int 30,.int 60,.int 90] a4=some (.int (N:Int)):=by
  rcases (show a4=0\/a4=1\/a4=2\/a4=3 by omega) with rfl|rfl|rfl|rfl
  ·exact⟨12,by decide,rfl⟩
  ·exact⟨30,by decide,rfl⟩
  ·exact⟨60,by decide,rfl⟩
  ·exact⟨90,by decide,rfl⟩
 have P0:Pl S4 d (k+43+9 * 0) sd (22+0) S2.length m0 (wW S2.length) []:=⟨D4.mat hM nd0,rfl,D4.gR.mono (by omega),nd0,Dr0,lg0,(λr hr=>by cases hr),up0⟩
 have hut:u.t = .tp [.int u.o,.int u.v,.int u.s,.int u.w,.int u.n,.int u.d,.int u.i,.int u.f]:=rfl
 have hr:(-4611686018427387904<=(N:Int)/\(N:Int)<4611686018427387904)=True:=eq_true (by omega)
 rw[hut,Wa] at e1 e3;rw[<-Wa] at e2;rw[Wa] at e2;unfold Jc;obtain⟨uT,LW⟩:∃uT,uT=Tr.tp [.int u.o,.int u.v,.int u.s,.int u.w,.int u.n,.int (sd:Int),.int u.i,.int u.f]:=⟨_,rfl⟩
 have i5:∀S,bu uT (.int 5) S = .ok (.int (sd:Int)) S:=λS=>by rw[LW];rfl
 rw[<-LW] at e1 e3;generalize cR t0 t1 p0 p1=sT at *
 simp?[fx,e1,↓i5,e2,e3,e4,eN,hr,zbs];generalize hZ:jl _ _ _ _ _ _=Z
 obtain⟨qY,S',⟨⟨v,rfl⟩,m,y,rs,P⟩,rfl⟩:=jc hZ (λi τ S'=>(∃v,τ=[some (.hd d),some uT,some (.hd S2.length),v])/\∃m y rs,Pl S' d (k+43+9 * i) sd (22+i) S2.length m y rs) (λ_ _ _ _=>trivial) ⟨⟨_,rfl⟩,m0,_,[],P0⟩ (by
  rintro i t τ S5 ht ⟨⟨v,rfl⟩,m,y,rs,P⟩
  obtain⟨jD,rfl⟩:=uI ht;obtain⟨e,S6,f1,D6,hE⟩:=Rp P.gR P.D P.dr (by omega) P.nd
  have hM6:=D6.mat P.gR P.nd;have ha:=P.gR.a;unfold mF at ha;rw[P.a] at f1 ha;have hd6:=D6.gR.lt;cases hr:rD m e with
  |none =>
   obtain⟨S7,y7,k1,T,z7⟩:=Wn hM6 P.D.z (by omega) e hr
   obtain⟨GK,RW,hk',hu'⟩:=Rt P.fN P.rk P.up hE hr;rw[P.a] at k1;refine⟨[some (.hd d),some uT,some (.hd S2.length),some (.int (0+(i:Int)))],S7,.inl ?_,⟨_,rfl⟩,_,y7,GK,T.gR,T.a.trans P.a,(D6.gR.on T.on P.nd).mono (by omega),λq=>(T.fp _ q).elim P.nd λq=>by omega,P.D.aoJ e z7 (by omega),RW,hk',hu'⟩
   generalize e.t=et at *
   simp?[fx,f1,ha,k1]
  |some w =>
   obtain⟨S0,⟨G,e0⟩,k1⟩:=Wo hM6 P.D.z (by omega) e w hr
   have on:bF [] S6 (S0++[.xD "NotLet" [("rule",.str w),("number",.int 0)]]):=by
    rw[e0,zcI];exact bF.sI
   rw[P.a] at k1;refine⟨[some (.hd d),some uT,some (.hd S2.length),some (.int (0+(i:Int)))],_,.inr ?_,⟨_,rfl⟩,m,y,rs,hM6.only on (by simp),P.a,(D6.gR.on on (by simp)).mono (by omega),P.nd,P.D.mono (by omega) (by omega),P.fN,P.rk,P.up⟩
   generalize e.t=et at *
   simp?[fx,f1,ha,k1,Z2,zaN])
 rw[nh] at P;refine⟨u,S',sd,_,S2.length,m,y,rs,?_,⟨P.gR,P.a,P.dr.mono (by omega),P.nd,P.D,P.fN,P.rk,P.up⟩⟩
 rw[hut,Wa,<-LW];simp only[↓bp,bx,simprocAttr]
noncomputable abbrev V4:=Int×Int×Int×Int
noncomputable def sO (p q:V4):V4:=(p.1+q.1,p.2.1+q.2.1,p.2.2.1+q.2.2.1,p.2.2.2+q.2.2.2)
noncomputable def ky (r:dP):Int:=r.a
def qD (X:List dP):List Int:=X.foldl (λl r=>if ky r∈l then l else l++[ky r]) []
def gx (X:List dP)(k:Int):List dP:=X.filter λr=>decide (ky r=k)
def ja (v:dP->V4)(Y:List dP):V4:=Y.foldl (λs r=>sO s (v r)) (0,0,0,0)
def fM (v:dP->V4)(X:List dP):List (Int×V4):=(qD X).map λk=>(k,ja v (gx X k))
theorem qE (X:List dP)(r:dP):qD (X++[r])=if ky r∈qD X then qD X else qD X++[ky r]:=by unfold qD;rw[zcJ];rfl
theorem rE (X:List dP)(r:dP)(k:Int):gx (X++[r]) k=if ky r=k then gx X k++[r] else gx X k:=by
 unfold gx;rw[List.filter_append,zbH];by_cases h:ky r=k
 ·rw[if_pos (decide_eq_true h),if_pos h];rfl
 ·rw[if_neg (by simpa using h),if_neg h];simp
theorem La (v:dP->V4)(Y:List dP)(r:dP):ja v (Y++[r])=sO (ja v Y) (v r):=by unfold ja;rw[zcJ];rfl
theorem lS (X:List dP):(∀r∈X,ky r∈qD X)/\(qD X).Nodup/\(qD X).length<=X.length:=by
 have key:∀(Y:List dP),(∀r∈Y.reverse,ky r∈qD Y.reverse)/\(qD Y.reverse).Nodup/\(qD Y.reverse).length<=Y.reverse.length:=λY=>by
  induction Y with
  |nil=>exact⟨λr hr=>by simp at hr,List.nodup_nil,zaf _⟩
  |cons r Y ih =>
   rw[zeg,qE];obtain⟨h1,h2,h3⟩:=ih;split
   ·rename_i q
    refine⟨λs hs=>?_,h2,by simp at h3 ⊢;omega⟩
    rcases zbt.mp hs with k|k
    ·exact h1 s k
    ·rw[zaN] at k;subst k;exact q
   ·rename_i q
    refine⟨λs hs=>?_,?_,by simp at h3 ⊢;omega⟩
    ·rcases zbt.mp hs with k|k
     ·exact zcn _ (h1 s k)
     ·rw[zaN] at k;subst k;simp
    ·rw[zcm]
     exact⟨h2,by simp,λa ha b hb e=>q (by rw[zaN] at hb;rw[<-hb,<-e];exact ha)⟩
 have:=key X.reverse
 rw[zcS] at this;exact this
theorem Rv (h:k∉qD X):gx X k=[]:=by
 unfold gx;rw[List.filter_eq_nil_iff];intro r hr q
 have:=of_decide_eq_true q
 exact h (this ▸ (lS X).1 r hr)
theorem Rw (p:V4):sO (0,0,0,0) p=p:=by unfold sO;simp
noncomputable def qF (p:V4):Tr:=.tp [.int p.1,.int p.2.1,.int p.2.2.1,.int p.2.2.2]
noncomputable def kP (k:Int):List dF:=[.inl k]
def dT (p:Int×V4):List dF×Tr:=(kP p.1,qF p.2)
noncomputable def GL (k:Int):Tr:=.tp [.int k]
noncomputable def gQ (p:Int×V4):Tr:=.tp [.int p.1,.int p.2.1,.int p.2.2.1,.int p.2.2.2.1,.int p.2.2.2.2]
theorem BB (h:kP x=kP y):x=y:=by
 unfold kP at h;injection h with h1 _
 injection h1 with h1
theorem Ek {l:List (Int×V4)}(nd:(l.map (·.1)).Nodup){p:Int×V4}(hp:p∈l):aN (kP p.1) (l.map dT)=some (qF p.2):=by
 induction l with
 |nil=>cases hp
 |cons a r ih =>
  rw[oh,zbE] at nd;rw[oh];show (if kP a.1=kP p.1 then some (qF a.2) else aN (kP p.1) (r.map dT))=_
  rcases zam.mp hp with rfl|hp
  ·rw[if_pos rfl]
  ·rw[if_neg λz=>nd.1 (zba.mpr ⟨p,hp,(BB z).symm⟩)]
   exact ih nd.2 hp
theorem Rx {l:List (Int×V4)}{k:Int}(hn:k∉l.map (·.1)):aN (kP k) (l.map dT)=none:=by
 induction l with
 |nil=>rfl
 |cons a r ih =>
  rw[oh,zam] at hn;rw[oh];show (if kP a.1=kP k then some (qF a.2) else aN (kP k) (r.map dT))=_
  rw[if_neg λz=>hn (.inl (BB z).symm)]
  exact ih λq=>hn (.inr q)
theorem qG (v:dP->V4)(X:List dP):(fM v X).map (·.1)=qD X:=by
 unfold fM;rw[zaI];exact List.map_id _
theorem Wy (v:dP->V4)(X:List dP)(r:dP):gy ((fM v X).map dT) (kP (ky r)) (qF (if ky r∈qD X then sO (ja v (gx X (ky r))) (v r) else v r))=(fM v (X++[r])).map dT:=by
 have nd:=(lS X).2.1
 unfold gy;by_cases h:ky r∈qD X
 ·have e:((fM v X).map dT).any (λkv=>decide (kv.1=kP (ky r)))=true:=by
   rw[zcs];exact⟨dT (ky r,ja v (gx X (ky r))),zba.mpr ⟨_,zba.mpr ⟨ky r,h,rfl⟩,rfl⟩,decide_eq_true rfl⟩
  rw[if_pos e,if_pos h];unfold fM;rw[qE,if_pos h];rw[zaI,zaI,zaI];apply zbF
  intro k hk;show (if kP k=kP (ky r) then (kP k,qF (sO (ja v (gx X (ky r))) (v r))) else (kP k,qF (ja v (gx X k))))=(kP k,qF (ja v (gx (X++[r]) k)))
  rw[rE];by_cases q:ky r=k
  ·subst q
   rw[if_pos rfl,if_pos rfl,La]
  ·rw[if_neg λz=>q (BB z).symm,if_neg q]
 ·have e:¬ ((fM v X).map dT).any (λkv=>decide (kv.1=kP (ky r)))=true:=λz=>by
   rw[zcs] at z;obtain⟨x,hx,q⟩:=z;obtain⟨p,hp,rfl⟩:=zba.mp hx;obtain⟨k,hk,rfl⟩:=zba.mp hp
   have:=BB (of_decide_eq_true q)
   exact h (this ▸ hk)
  rw[if_neg e,if_neg h];unfold fM;rw[qE,if_neg h,zaG,zaG];congr 1
  ·rw[zaI,zaI]
   apply zbF
   intro k hk;show (kP k,qF (ja v (gx X k)))=(kP k,qF (ja v (gx (X++[r]) k)))
   rw[rE,if_neg λq:ky r=k=>h (by rw[q];exact hk)]
  ·show [(kP (ky r),qF (v r))]=[(kP (ky r),qF (ja v (gx (X++[r]) (ky r))))]
   rw[rE,if_pos rfl,Rv h,BI];unfold ja;rw[zaT,List.foldl_nil,Rw]
noncomputable def nbI (u:U)(b:B):Int:=if b.k="no" \/ b.k="nobye" then u.n else 0
def xpV (u:U)(b:B):V4:=if b.k="leg" then (0,(LU u b.k b.r).ext - nbI u b,0,0) else if b.k="wide" then (0,0,(LU u b.k b.r).ext - nbI u b,0) else ((LU u b.k b.r).ext - nbI u b,0,0,nbI u b)
theorem Wz (u:U)(b:B)(S:Cs):Jh [u.t,b.t] S = .ok (qF (xpV u b)) S:=by
 have k1:=QU u b S;unfold B.Gv at k1;unfold Jh qF xpV;have k2:Jg [b.t] S = .ok (.bl (decide (b.k="no" \/ b.k="nobye"))) S:=by
  unfold Jg B.t;simp?[V0,bX,zbi,zbG,zbz]
 have k3:∀S,bu b.t (.int 1) S = .ok (.str b.k) S:=λS=>rfl
 have k4:∀S,bu u.t (.int 4) S = .ok (.int u.n) S:=λS=>rfl
 generalize u.t=ut at *
 generalize b.t=bt at *
 generalize hI:BG _ _ _=IF
 have kI:IF [some ut,some bt,none,none] S = .ok (.int (nbI u b)) S:=by
  subst hI;unfold nbI;cases hb:decide (b.k="no" \/ b.k="nobye") with
  |true =>
   rw[hb] at k2;rw[if_pos (of_decide_eq_true hb)];simp?[k2,↓k4]
  |false =>
   rw[hb] at k2;rw[if_neg (of_decide_eq_false hb)];simp?[k2]
 simp?[kI,k1,↓k3,cY];by_cases q1:b.k="leg"
 ·rw[decide_eq_true q1,if_pos q1]
  simp only[↓bp,bx,simprocAttr]
 ·rw[decide_eq_false q1,if_neg q1]
  by_cases q2:b.k="wide"
  ·rw[if_pos q2]
   simp?[↓k3,decide_eq_true q2]
  ·rw[if_neg q2]
   simp?[↓k3,decide_eq_false q2]
theorem Ry (l:List (Int×Int))(hl:l.length<=1000)(S:Cs):D_ [.tp (l.map λp=>.int p.1),.tp (l.map λp=>.int p.2)] S = .ok (.tp (l.map λp=>.int (p.1+p.2))) S:=by
 unfold D_;have ez:∀(τ:En) (fr:En->Cs->R (List Tr)),rW fr τ S=(fr τ S).az rV:=λ_ _=>rfl
 have ek:∀l m:List Tr,rV [.tp l,.tp m] S = .ok ⟨oX l m,λ_=>True⟩ S:=λ_ _=>rfl
 have et:∀l:List Tr,qU [.ls l] S = .ok (.tp l) S:=λ_=>rfl
 have ew:oX (l.map λp=>Tr.int p.1) (l.map λp=>Tr.int p.2)=l.map λp=>.tp [.int p.1,.int p.2]:=by
  unfold oX;induction l with
  |nil=>rfl
  |cons a r ih=>simp only[oh,zcG,ih (Nat.le_of_succ_le hl)]
 simp?[ez,ek,ew];rw[cI trivial (λτ=>∃v w,τ=[v,w]) (λp:Int×Int=>.tp [.int p.1,.int p.2]) (λp=>.int (p.1+p.2)) (λ_=>true) l _ [] ⟨_,_,rfl⟩ ?_ (by simp;omega)]
 ·rw[BI,zbX.mpr (λ_ _=>rfl)]
  simp?[↓et]
 ·rintro p hp τ ⟨v,w,rfl⟩
  exact⟨[some (.int p.1),some (.int p.2)],⟨_,_,rfl⟩,rfl,rfl,λ_=>rfl⟩
theorem Rz (p q:V4)(S:Cs):D_ [qF p,qF q] S = .ok (qF (sO p q)) S:=
 Ry [(p.1,q.1),(p.2.1,q.2.1),(p.2.2.1,q.2.2.1),(p.2.2.2,q.2.2.2)] (by simp) S
theorem BC (k:Int):CQ (GL k)=some (kP k):=rfl
def Z8 (v:dP->V4)(r:dP):Tr:=.tp [GL (ky r),qF (v r)]
theorem ak3 {S:Cs}{n:Nat}(v:dP->V4)(X:List dP)(hn:S[n]? = some (.bD (X.map (Z8 v))))(hl:X.length<=1000):∃k S',Ji [.hd n] S = .ok (.hd k) S'/\S'[k]? = some (.bD ((fM v X).map gQ))/\ni S S'/\S.length<=k:=by
 unfold Ji;have Fp:=bh hn;have hn':∀c,(S++[c])[n]? = some (.bD (X.map (Z8 v))):=λc=>by rw[zal Fp];exact hn
 have hn0:=hn' (.nW [])
 simp?[A1,hn0];generalize hZ:jl _ _ _ _ _ _=Z
 obtain⟨qY,S',⟨⟨v2,v3,rfl⟩,rfl⟩,rfl⟩:=jc hZ (λi τ S'=>(∃v2 v3,τ=[some (.hd n),some (.hd S.length),v2,v3])/\S'=S++[.nW ((fM v (X.take i)).map dT)]) (λi τ S' ⟨_,q⟩=>by rw[q];show cK _ n=_;unfold cK;rw[hn']) ⟨⟨_,_,rfl⟩,rfl⟩ (by
  rintro i t τ S' ht ⟨⟨v2,v3,rfl⟩,rfl⟩
  rw[zar] at ht;cases hr:X[i]? with
  |none=>rw[hr] at ht;cases ht
  |some r =>
   rw[hr] at ht;cases ht;have et:X.take (i+1)=X.take i++[r]:=by rw[zfc,hr];rfl
   have hg:(S++[Ce.nW ((fM v (X.take i)).map dT)])[S.length]? = some (.nW ((fM v (X.take i)).map dT)):=cS _ _
   have hp:=Wy v (X.take i) r
   rw[<-et] at hp;have hz:((fM v (X.take i)).map dT).length<sizeLine:=by
    have h1:=(lS (X.take i)).2.2
    have h2:(1000:Nat)<sizeLine:=by decide +kernel
    unfold fM;rw[zad,zad];rw[zaU] at h1;omega
   have hv:AZ (S++[Ce.nW ((fM v (X.take i)).map dT)]) (.hd S.length) (GL (ky r))=some (aN (kP (ky r)) ((fM v (X.take i)).map dT)):=by
    unfold AZ;simp only[hg,BC,zcf]
   have gP:∀t,rX (.hd S.length) (GL (ky r)) t (S++[Ce.nW ((fM v (X.take i)).map dT)]) = .ok () (S++[Ce.nW (gy ((fM v (X.take i)).map dT) (kP (ky r)) t)]):=λt=>by
    unfold rX;simp only[hg,BC,if_pos hz];rw[zcM _ _ (zaf _),zfA];rfl
   refine⟨[some (.hd n),some (.hd S.length),some (GL (ky r)),some (qF (v r))],_,.inl ?_,⟨_,_,rfl⟩,rfl⟩
   rw[<-hp];unfold Z8;by_cases hm:ky r∈qD (X.take i)
   ·rw[if_pos hm]
    have g1:aN (kP (ky r)) ((fM v (X.take i)).map dT)=some (qF (ja v (gx (X.take i) (ky r)))):=Ek (p:=(ky r,ja v (gx (X.take i) (ky r)))) (by rw[qG];exact (lS _).2.1) (zba.mpr ⟨ky r,hm,rfl⟩)
    rw[g1] at hv;have ha:=Rz (ja v (gx (X.take i) (ky r))) (v r) (S++[Ce.nW ((fM v (X.take i)).map dT)])
    have hI:A0 false (GL (ky r)) (.hd S.length) (S++[Ce.nW ((fM v (X.take i)).map dT)]) = .ok (.bl true) (S++[Ce.nW ((fM v (X.take i)).map dT)]):=by unfold A0;rw[hv];rfl
    have hx:uR (.hd S.length) (GL (ky r)) (S++[Ce.nW ((fM v (X.take i)).map dT)]) = .ok (qF (ja v (gx (X.take i) (ky r)))) (S++[Ce.nW ((fM v (X.take i)).map dT)]):=by unfold uR;rw[hv]
    generalize GL (ky r)=kt at *
    generalize qF (sO (ja v (gx (X.take i) (ky r))) (v r))=w1 at *
    generalize qF (ja v (gx (X.take i) (ky r)))=w2 at *
    generalize qF (v r)=w3 at *
    simp?[A2,↓hI,↓hx,ha,gP]
   ·rw[if_neg hm]
    have g1:aN (kP (ky r)) ((fM v (X.take i)).map dT)=none:=Rx (by rw[qG];exact hm)
    rw[g1] at hv;have hI:A0 false (GL (ky r)) (.hd S.length) (S++[Ce.nW ((fM v (X.take i)).map dT)]) = .ok (.bl false) (S++[Ce.nW ((fM v (X.take i)).map dT)]):=by unfold A0;rw[hv];rfl
    generalize GL (ky r)=kt at *
    generalize qF (v r)=w3 at *
    simp?[A2,↓hI,gP])
 rw[zad,zbZ];have nd:((fM v X).map (·.1)).Nodup:=by rw[qG];exact (lS X).2.1
 have tl:(fM v X).length<=1000:=by have:=(lS X).2.2;unfold fM;rw[zad];omega
 generalize fM v X=T at *
 have q0:(S++[Ce.nW (T.map dT)])[S.length]? = some (Ce.nW (T.map dT)):=cS _ _
 have qs:(S++[Ce.nW (T.map dT)]).set S.length (Ce.rO (T.map dT))=S++[Ce.rO (T.map dT)]:=by
  rw[zcM _ _ (zaf _),zfA];rfl
 have qi:iD (.hd S.length) (S++[Ce.nW (T.map dT)]) = .ok ⟨T.map λp=>GL p.1,λ_=>True⟩ (S++[Ce.rO (T.map dT)]):=by
  unfold iD;simp only[q0,qs,zaI];rfl
 have q2:(S++[Ce.rO (T.map dT)])[S.length]? = some (Ce.rO (T.map dT)):=cS _ _
 have qx:∀p∈T,uR (.hd S.length) (GL p.1) (S++[Ce.rO (T.map dT)]) = .ok (qF p.2) (S++[Ce.rO (T.map dT)]):=λp hp=>by
  unfold uR AZ;simp only[q2,BC,zcf,Ek nd hp]
 have eL:(S++[Ce.rO (T.map dT)]).length=S.length+1:=by simp
 refine⟨S.length+1,S++[Ce.rO (T.map dT)]++[.bD (T.map gQ)],?_,by rw[<-eL];exact cS _ _,⟨[Ce.rO (T.map dT),.bD (T.map gQ)],by simp⟩,by omega⟩
 simp?[qX,qi];generalize S++[Ce.nW (T.map dT)]=S1 at *
 generalize yI:S++[Ce.rO (T.map dT)]=S2 at *
 rw[cI trivial (λτ=>∃v,τ=[some (.hd S.length),v]) (λp:Int×V4=>GL p.1) gQ (λ_=>true) T _ [] ⟨_,rfl⟩ ?_ (by simp;omega)]
 ·rw[BI,zbX.mpr (λ_ _=>rfl)]
  simp?[eL]
 ·rintro p hp τ ⟨w,rfl⟩
  refine⟨[some (.hd S.length),some (GL p.1)],⟨_,rfl⟩,rfl,rfl,λ_=>?_⟩
  have h1:=qx p hp;unfold gQ;unfold GL qF at *
  simp?[↓h1]
theorem El:∀(Y:List dP),(∀r∈Y,0<=r.a)->qD Y.reverse=f9 (lY (Y.reverse.map λr=>r.a.toNat))
 |[],_=>rfl
 |r::Y,h=>by
  have ih:=El Y λq hq=>h q (by simp[hq])
  have h0:=h r (by simp)
  rw[zeg,qE,zaG,oh,Ii,uV,ih];generalize lY (Y.reverse.map λr=>r.a.toNat)=σ
  have hm:ky r∈f9 σ ↔ r.a.toNat ∈ σ:= by
   unfold f9 ky;rw[zba];refine⟨λ⟨n,hn,e⟩=>?_,λhn=>⟨_,hn,zcY h0⟩⟩
   have:r.a.toNat=n:=by omega
   rw[this];exact hn
  unfold n_;by_cases q:r.a.toNat ∈ σ
  ·rw[if_pos (hm.mpr q),if_pos q]
  ·rw[if_neg λz=>q (hm.mp z),if_neg q]
   unfold f9;rw[zaG,oh,Ii];have:((r.a.toNat:Nat):Int)=ky r:=zcY h0
   rw[this]
theorem Ju (h:∀r∈X,0<=r.a):qD X=f9 (lY (X.map λr=>r.a.toNat)):=by
 have:=El X.reverse λr hr=>h r (by simpa using hr)
 rwa[zcS] at this
theorem Jv:∀(Y:List Nat),Y.reverse.Pairwise (· <= ·)->(lY Y.reverse).Pairwise (· < ·)
 |[],_=>List.Pairwise.nil
 |n::Y,h=>by
  rw[zeg] at h ⊢
  rw[zdE] at h;have ih:=Jv Y h.1;rw[uV];unfold n_;by_cases q:n∈lY Y.reverse
  ·rw[if_pos q];exact ih
  ·rw[if_neg q,zdE]
   refine⟨ih,by simp,λa ha b hb=>?_⟩
   have e:b=n:=by simpa using hb
   subst e
   have:=h.2.2 a (s_.mp ha) b (by simp)
   have o_:a≠b:=λz=>q (z ▸ ha)
   omega
theorem RA (h:l.Pairwise (· <= ·)):(lY l).Pairwise (· < ·):=by
 have:=Jv l.reverse (by rwa[zcS])
 rwa[zcS] at this
theorem RB:∀(l:List Nat) (lo:Nat),l.Pairwise (· < ·)->(∀x∈l,lo<=x/\x<4)->l.length<=4 - lo
 |[],lo,_,_=>zbM _
 |x::r,lo,hp,hb=>by
  rw[List.pairwise_cons] at hp;have h1:=hb x (by simp)
  have:=RB r (x+1) hp.2 λy hy=>⟨hp.1 y hy,(hb y (by simp[hy])).2⟩
  rw[zas];omega
structure Ux (X:List dP):Prop where
 up:(X.map (·.a)).Pairwise (· <= ·)
 bd:∀r∈X,0<=r.a/\r.a<4
theorem Ux.ak4 (h:Ux X):xW (X.map λr=>r.a.toNat):=by
 have hp:(X.map λr=>r.a.toNat).Pairwise (· <= ·):=by
  have:=h.up
  rw[zed] at this ⊢
  exact this.imp λh=>by omega
 have hb:∀n∈X.map (λr=>r.a.toNat),n<4:=λn hn=>by
  obtain⟨r,hr,rfl⟩:=zba.mp hn
  have:=h.bd r hr
  omega
 refine⟨hp,λn hn=>by have:=hb n hn;omega,?_⟩
 have:=RB _ 0 (RA hp) λx hx=>⟨zbM _,hb x (s_.mp hx)⟩
 omega
theorem Ux.qD (h:Ux X):(qD X).Pairwise (· < ·)/\(My.qD X).length<=4:=by
 have e:=Ju λr hr=>(h.bd r hr).1
 have hr:=h.ak4;rw[e];unfold f9;rw[zed,zad];exact⟨(RA hr.1).imp λh=>by omega,hr.2.2⟩
theorem af7 (h:Ux X)(S:Cs):nk (.ls (X.map λr=>.int r.a)) S = .ok (.ls ((qD X).map .int)) S:=by
 have i1:=kQ (λr:dP=>r.a) X
 have e1:X.map (λr=>r.a)=f9 ((X.map (λr=>r.a)).map Int.toNat):=by
  unfold f9;rw[zaI,zaI];apply zbF
  intro r hr;exact (zcY (h.bd r hr).1).symm
 have e2:(X.map (λr=>r.a)).map Int.toNat=X.map λr=>r.a.toNat:=by rw[zaI];rfl
 have hr:=h.ak4;rw[<-e2] at hr;unfold nk;show (match mY (X.map λr=>Tr.int r.a) with|some ns=>_|none=>_)=_
 rw[i1];show (if X.map (λr=>r.a)=f9 ((X.map (λr=>r.a)).map Int.toNat)/\xW ((X.map (λr=>r.a)).map Int.toNat) then _ else _)=_
 rw[if_pos ⟨e1,hr⟩,Ju λr hr=>(h.bd r hr).1,e2]
theorem su:∀(T:List (Int×V4)),lI (T.map gQ)=some (T.map (·.1))
 |[]=>rfl
 |p::T=>by
  rw[oh,oh];show (lI (T.map gQ)).map (p.1::·)=_
  rw[su T];rfl
def pe (u:U)(r:dP):V4:=xpV u r.e
theorem WA (h:Ux X)(v:dP->V4)(hk:S[k]? = some (.bD ((fM v X).map gQ))):qj [.hd k] S = .ok (.hd S.length) (S++[.bD ((fM v X).map gQ)]):=by
 have hr:w9 S (.hd k)=some ((fM v X).map gQ):=by
  unfold w9;show cK S k=_
  unfold cK;rw[hk]
 obtain⟨h1,h2⟩:=h.qD;unfold qj;simp only[hr,su,qG];rw[if_pos ⟨by rw[zad];unfold fM;rw[zad];omega,h1⟩]
theorem iI {α:Type}{w:List α}{n:Nat}(h:w.length=n+1):∃a r,w=a::r/\r.length=n:=by
 cases w with
 |nil=>cases h
 |cons a r=>exact⟨a,r,rfl,Nat.succ.inj h⟩
theorem af8 {α:Type}{w:List α}(h:w.length=5):∃a b c d e,w=[a,b,c,d,e]:=by
 obtain⟨a,w1,rfl,h1⟩:=iI h;obtain⟨b,w2,rfl,h2⟩:=iI h1;obtain⟨c,w3,rfl,h3⟩:=iI h2;obtain⟨d,w4,rfl,h4⟩:=iI h3;obtain⟨e,w5,rfl,h5⟩:=iI h4;rw[zez.mp h5];exact⟨_,_,_,_,_,rfl⟩
theorem ak5 {α:Type}{w:List α}(h:w.length=8):∃a b c d e f g i,w=[a,b,c,d,e,f,g,i]:=by
 obtain⟨a,w1,rfl,h1⟩:=iI h;obtain⟨b,w2,rfl,h2⟩:=iI h1;obtain⟨c,w3,rfl,h3⟩:=iI h2;obtain⟨d,e,f,g,i,rfl⟩:=af8 h3;exact⟨_,_,_,_,_,_,_,_,rfl⟩
theorem Z9 (hx:Ux X)(hl:X.length<=1000)(S:Cs):∃k S',Ea [u.t,.ls (X.map dP.t)] S = .ok (.hd k) S'/\S'[k]? = some (.bD ((fM (pe u) X).map gQ))/\ni S S'/\S.length<=k:=by
 unfold Ea;have hb:=λb S=>Wz u b S
 obtain⟨uT,LW⟩:∃uT,uT=u.t:=⟨_,rfl⟩
 rw[<-LW];simp only[<-LW] at hb;simp only[↓bp,bx,simprocAttr];generalize hZ:jl _ _ _ _ _ _=Z
 obtain⟨qY,S',⟨⟨w,rfl,hw⟩,rfl⟩,rfl⟩:=jc hZ (λi τ S'=>(∃w,τ=some uT::some (.ls (X.map dP.t))::some (.hd S.length)::w/\w.length=8)/\S'=S++[.bD ((X.take i).map (Z8 (pe u)))]) (λ_ _ _ _=>trivial) ⟨⟨_,rfl,rfl⟩,rfl⟩ (by
  rintro i t τ S' ht ⟨⟨w,rfl,hw⟩,rfl⟩
  rw[zar] at ht;cases hr:X[i]? with
  |none=>rw[hr] at ht;cases ht
  |some r =>
   rw[hr] at ht;cases ht;obtain⟨v5,v6,v7,v8,v9,v10,Tt,v12,rfl⟩:∃v5 v6 v7 v8 v9 v10 Tt v12,w=[v5,v6,v7,v8,v9,v10,Tt,v12]:=ak5 hw
   have et:X.take (i+1)=X.take i++[r]:=by rw[zfc,hr];rfl
   have h1:=hb r.e (S++[Ce.bD ((X.take i).map (Z8 (pe u)))])
   have hz:((X.take i).length<sizeLine)=True:=lF (by rw[zaU];omega)
   refine⟨[some uT,some (.ls (X.map dP.t)),some (.hd S.length),some (.int r.a),some (.int r.b),some (.int r.c),some (.str r.f),some (.str r.o),some (.str r.w),some r.e.t,some (.str r.q)],_,.inl ?_,⟨_,rfl,rfl⟩,rfl⟩
   rw[et,zaG];have hp:Z8 (pe u) r = .tp [.tp [.int r.a],qF (xpV u r.e)]:=rfl
   rw[oh,Ii,hp];unfold dP.t;generalize r.e.t=et0 at *
   generalize qF (xpV u r.e)=vt at *
   simp?[h1,Z2,sa0,hz,zad])
 rw[zad,zbZ];obtain⟨k,S2,e1,e2,⟨J,e3⟩,e4⟩:=ak3 (S:=S++[.bD (X.map (Z8 (pe u)))]) (pe u) X (cS _ _) hl
 obtain⟨v5,v6,v7,v8,v9,v10,Tt,v12,rfl⟩:∃v5 v6 v7 v8 v9 v10 Tt v12,w=[v5,v6,v7,v8,v9,v10,Tt,v12]:=ak5 hw
 have e5:=WA hx (pe u) e2
 refine⟨S2.length,S2++[.bD ((fM (pe u) X).map gQ)],?_,cS _ _,⟨[.bD (X.map (Z8 (pe u)))]++J++[.bD ((fM (pe u) X).map gQ)],by rw[e3];simp⟩,by rw[e3];simp⟩
 simp?[e1,↓e5]
noncomputable def Z_ (r:dP):Bool:=decide (r.e.k="bye" \/ r.e.k="nobye")
noncomputable def leg (r:dP):Bool:=decide (r.e.k="leg")
noncomputable def wid (r:dP):Bool:=decide (r.e.k="wide")
noncomputable def R7 (r:dP):Bool:=decide (r.e.k="no" \/ r.e.k="nobye")
theorem WB (h:Rk r)(u:U):pe u r=(if Z_ r=true then r.e.r else 0,if leg r=true then r.e.r else 0,if wid r=true then u.w+r.e.r else 0,if R7 r=true then u.n else 0):=by
 have h:=h.1;unfold pe Z_ leg wid R7;generalize r.e=b at *
 obtain⟨k,n,rp,w,ZW,en⟩:=b;have h:k∈zU:=h
 unfold zU at h;simp only[zam,zav,or_false] at h;have key:∀(p q:V4),p.1=q.1->p.2.1=q.2.1->p.2.2.1=q.2.2.1->p.2.2.2=q.2.2.2->p=q:=λp q a b c d=>zdK a (zdK b (zdK c d))
 rcases h with rfl|rfl|rfl|rfl|rfl|rfl|rfl|rfl
 ·exact key _ (0,0,0,0) (show (0:Int) - 0=0 by decide) rfl rfl rfl
 ·exact key _ (0,0,0,0) (show (0:Int) - 0=0 by decide) rfl rfl rfl
 ·exact key _ (0,0,0,0) (show (0:Int) - 0=0 by decide) rfl rfl rfl
 ·exact key _ (n,0,0,0) (show n - 0=n by omega) rfl rfl rfl
 ·exact key _ (0,n,0,0) rfl (show n - 0=n by omega) rfl rfl
 ·exact key _ (0,0,u.w+n,0) rfl rfl (show u.w+n - 0=u.w+n by omega) rfl
 ·exact key _ (0,0,0,u.n) (show u.n - u.n=0 by omega) rfl rfl rfl
 ·exact key _ (n,0,0,u.n) (show u.n+n - u.n=n by omega) rfl rfl rfl
theorem GN (v:dP->V4)(Y:List dP):ja v Y=((Y.map λr=>(v r).1).sum,(Y.map λr=>(v r).2.1).sum,(Y.map λr=>(v r).2.2.1).sum,(Y.map λr=>(v r).2.2.2).sum):=by
 have key:∀(Y:List dP) (s:V4),Y.foldl (λs r=>sO s (v r)) s=sO s ((Y.map λr=>(v r).1).sum,(Y.map λr=>(v r).2.1).sum,(Y.map λr=>(v r).2.2.1).sum,(Y.map λr=>(v r).2.2.2).sum):=λY=>by
  induction Y with
  |nil=>intro s;unfold sO;simp
  |cons r Y ih =>
   intro s;rw[zaT,ih];unfold sO;simp only[oh,zfm];refine zdK ?_ (zdK ?_ (zdK ?_ ?_))<;>simp only<;>omega
 unfold ja;rw[key,Rw]
theorem nB (p:dP->Bool)(f g:dP->Int):∀(Y:List dP),(∀r∈Y,f r=if p r=true then g r else 0)->(Y.map f).sum=((Y.filter p).map g).sum
 |[],_=>rfl
 |r::Y,h=>by
  have ih:=nB p f g Y λq hq=>h q (by simp[hq])
  have h1:=h r (by simp)
  rw[oh,zfm,ih,h1,zbH];cases p r with
  |true=>simp
  |false=>simp
theorem zW (n:Int):∀(Y:List dP),(Y.map λ_=>n).sum=n * (Y.length:Int)
 |[]=>by simp
 |r::Y=>by
  rw[oh,zfm,zW n Y,zas,zbR,Int.mul_add];simp
  omega
theorem WC (hk:∀r∈Y,Rk r)(u:U)(k:Int):gQ (k,ja (pe u) Y) = .tp [.int k,.int ((Y.filter Z_).map λr=>r.e.r).sum,.int ((Y.filter leg).map λr=>r.e.r).sum,.int ((Y.filter wid).map λr=>u.w+r.e.r).sum,.int (u.n * ((Y.filter R7).length:Int))]:=by
 have x:=λr hr=>WB (hk r hr) u
 rw[GN];unfold gQ;rw[nB Z_ _ (λr=>r.e.r) Y λr hr=>by rw[x r hr],nB leg _ (λr=>r.e.r) Y λr hr=>by rw[x r hr],nB wid _ (λr=>u.w+r.e.r) Y λr hr=>by rw[x r hr],nB R7 _ (λ_=>u.n) Y λr hr=>by rw[x r hr],zW]
def GO (r:dP):Tr:=r.e.t
theorem ak8 (hx:Ux X)(hk:∀r∈X,Rk r)(hl:X.length<=1000)(S:Cs):∃S',Jf [u.t,.ls (X.map dP.t)] S = .ok (.hd S.length) S'/\S'[S.length]? = some (.bD ((fM (pe u) X).map gQ))/\ni S S':=by
 have ess:=λS=>af7 hx S
 unfold Jf;obtain⟨uT,LW⟩:∃uT,uT=u.t:=⟨_,rfl⟩
 have i3:∀S,bu uT (.int 3) S = .ok (.int u.w) S:=λS=>by rw[LW];rfl
 have i4:∀S,bu uT (.int 4) S = .ok (.int u.n) S:=λS=>by rw[LW];rfl
 rw[<-LW];simp only[↓bp,bx,simprocAttr];rw[cI trivial (λτ=>∃v,τ=[v]) dP.t (λr=>.int r.a) (λ_=>true) X _ [] ⟨_,rfl⟩ ?_ (by simp;omega)]
 ·rw[BI,zbX.mpr (λ_ _=>rfl)]
  simp?[↓ess];generalize hZ:jl _ _ _ _ _ _=Z
  have tk:fM (pe u) X=(qD X).map λk=>(k,ja (pe u) (gx X k)):=rfl
  have ol:(qD X).length<=4:=hx.qD.2
  obtain⟨qY,S',⟨⟨w,rfl,hw⟩,rfl⟩,rfl⟩:=jc hZ (λi τ S'=>(∃w,τ=some uT::some (.ls (X.map dP.t))::some (.hd S.length)::w/\w.length=5)/\S'=S++[.bD (((fM (pe u) X).take i).map gQ)]) (λ_ _ _ _=>trivial) ⟨⟨_,rfl,rfl⟩,rfl⟩ (by
   rintro i t τ S' ht ⟨⟨w,rfl,hw⟩,rfl⟩
   obtain⟨w1,w2,w3,w4,w5,rfl⟩:∃w1 w2 w3 w4 w5,w=[w1,w2,w3,w4,w5]:=af8 hw
   rw[zar] at ht;cases hr:(qD X)[i]? with
   |none=>rw[hr] at ht;cases ht
   |some k =>
    rw[hr] at ht;cases ht;have et:(fM (pe u) X).take (i+1)=(fM (pe u) X).take i++[(k,ja (pe u) (gx X k))]:=by
     rw[zfc,tk,zar,hr];rfl
    have hY:∀r∈gx X k,Rk r:=λr hr=>hk r (zeA.mp hr).1
    have yl:(gx X k).length<=1000:=zah (zdv ..) hl
    have aoW:=WC hY u k;have eY:(X.filter λr=>decide (ky r=k))=gx X k:=rfl
    have hz:(((fM (pe u) X).take i).length<sizeLine)=True:=lF (by rw[zaU,tk,zad];omega)
    refine⟨[some uT,some (.ls (X.map dP.t)),some (.hd S.length),some (.int k),some (.ls ((gx X k).map GO)),some (.int (((gx X k).filter Z_).map λr=>r.e.r).sum),some (.int (((gx X k).filter leg).map λr=>r.e.r).sum),some (.int (((gx X k).filter wid).map λr=>u.w+r.e.r).sum)],_,.inl ?_,⟨_,rfl,rfl⟩,rfl⟩
    rw[et,zaG,oh,Ii,aoW];simp only[↓bp,bx,simprocAttr];rw[cI trivial (λτ=>∃v,τ=[some (.int k),v]) dP.t GO (λr=>decide (ky r=k)) X _ [] ⟨_,rfl⟩ ?_ (by simp;omega)]
    ·rw[BI,eY]
     generalize gx X k=Y at *
     have j1:=kQ (λr:dP=>r.e.r) (Y.filter Z_)
     have j2:=kQ (λr:dP=>r.e.r) (Y.filter leg)
     have j3:=kQ (λr:dP=>u.w+r.e.r) (Y.filter wid)
     have z1:((Y.filter R7).length<=sizeLine)=True:=bK (zah (zdv ..) (by omega))
     have zm:((-18446744073709551616<u.n/\u.n<18446744073709551616)\/(-18446744073709551616<((Y.filter R7).length:Int)/\((Y.filter R7).length:Int)<18446744073709551616))=True:=eq_true (.inr (by have:=zdv R7 Y;omega))
     simp only[↓bp,bx,simprocAttr];rw[cI trivial (λτ=>∃v,τ=[v]) GO (λr=>.int r.e.r) Z_ Y _ [] ⟨_,rfl⟩ ?_ (by simp;omega)]
     ·rw[BI]
      simp?[j1];rw[cI trivial (λτ=>∃v,τ=[v]) GO (λr=>.int r.e.r) leg Y _ [] ⟨_,rfl⟩ ?_ (by simp;omega)]
      ·rw[BI]
       simp?[j2];rw[cI trivial (λτ=>∃v,τ=[some uT,v]) GO (λr=>.int (u.w+r.e.r)) wid Y _ [] ⟨_,rfl⟩ ?_ (by simp;omega)]
       ·rw[BI]
        simp?[j3,↓i4];rw[cI trivial (λτ=>∃v,τ=[v]) GO (λ_=>.int 1) R7 Y _ [] ⟨_,rfl⟩ ?_ (by simp;omega)]
        ·rw[BI]
         simp?[z1,zm,zad,Z2,sa0,hz]
        ·rintro r hr τ ⟨v,rfl⟩
         refine⟨[some (GO r)],⟨_,rfl⟩,rfl,?_,λ_=>rfl⟩
         unfold GO B.t R7;simp?[V0,bX,zbi,zbG,zbz]
       ·rintro r hr τ ⟨v,rfl⟩
        refine⟨[some uT,some (GO r)],⟨_,rfl⟩,rfl,?_,λ_=>?_⟩
        ·unfold GO B.t wid
         simp only[↓bp,bx,simprocAttr]
        ·unfold GO B.t
         simp?[↓i3]
      ·rintro r hr τ ⟨v,rfl⟩
       refine⟨[some (GO r)],⟨_,rfl⟩,rfl,?_,λ_=>rfl⟩
       unfold GO B.t leg;simp only[↓bp,bx,simprocAttr]
     ·rintro r hr τ ⟨v,rfl⟩
      refine⟨[some (GO r)],⟨_,rfl⟩,rfl,?_,λ_=>rfl⟩
      unfold GO B.t Z_;simp?[V0,bX,zbi,zbG,zbz]
    ·rintro r hr τ ⟨v,rfl⟩
     refine⟨[some (.int k),some r.t],⟨_,rfl⟩,rfl,?_,λ_=>rfl⟩
     unfold dP.t ky;simp only[↓bp,bx,simprocAttr])
  have e9:(fM (pe u) X).take ((qD X).map Tr.int).length=fM (pe u) X:=by rw[zad];exact zbd (by rw[tk,zad];exact zaf _)
  rw[e9];obtain⟨w1,w2,w3,w4,w5,rfl⟩:∃w1 w2 w3 w4 w5,w=[w1,w2,w3,w4,w5]:=af8 hw
  refine⟨S++[.bD ((fM (pe u) X).map gQ)],?_,cS _ _,⟨_,rfl⟩⟩
  simp only[↓bp,bx,simprocAttr]
 ·rintro r hr τ ⟨v,rfl⟩
  refine⟨[some r.t],⟨_,rfl⟩,rfl,rfl,λ_=>?_⟩
  unfold dP.t;simp only[↓bp,bx,simprocAttr]
theorem aac:∀{l:List Tr},(∀t∈l,t.dp<=n)->Tr.EA l<=n
 |[],_=>by unfold Tr.EA;exact zbM _
 |t::l,h=>by
  unfold Tr.EA;exact Nat.max_le.mpr ⟨h t (by simp),aac λu hu=>h u (by simp[hu])⟩
theorem RC:∀{l:List Tr} {t:Tr},t∈l->t.dp<=Tr.EA l
 |u::l,t,h=>by
  unfold Tr.EA;rcases zam.mp h with rfl|h
  ·exact Nat.le_max_left ..
  ·exact zah (RC h) (Nat.le_max_right ..)
theorem aad (S:Cs):∀(n:Nat) (t:Tr),t.qQ=true->t.dp<=n->vw n S t=t
 |0,t,_,_=>by cases t<;>rfl
 |n+1,t,h,hd=>by
  have key:∀l:List Tr,Tr.pS l=true->Tr.EA l<=n->l.map (vw n S)=l:=λl h1 h2=>by
   rw[pZ,zaQ] at h1;have:l.map (vw n S)=l.map _root_.id:=zbF λt ht=>aad S n t (h1 t ht) (zah (RC ht) h2)
   rw[this,List.map_id]
  cases t with
  |tp l =>
   unfold Tr.qQ at h;unfold Tr.dp at hd;show Tr.tp (l.map (vw n S))=_
   rw[key l h (by omega)]
  |ls l =>
   unfold Tr.qQ at h;unfold Tr.dp at hd;show Tr.ls (l.map (vw n S))=_
   rw[key l h (by omega)]
  |hd i=>unfold Tr.qQ at h;cases h
  |kl l=>unfold Tr.qQ at h;cases h
  |kt l=>unfold Tr.qQ at h;cases h
  |_=>rfl
def Jw (S:Cs)(t:Tr)(l:List Tr):Prop:=t = .ls l\/∃k,t = .hd k/\S[k]? = some (.bD l)
theorem Jw.vw (h:Jw S t l)(hn:Tr.pS l=true)(hd:Tr.EA l<=5):vw 6 S t = .ls l:=by
 have key:l.map (L2.vw 5 S)=l:=by
  rw[pZ,zaQ] at hn;have:l.map (L2.vw 5 S)=l.map _root_.id:=zbF λt ht=>aad S 5 t (hn t ht) (zah (RC ht) hd)
  rw[this,List.map_id]
 rcases h with rfl|⟨k,rfl,hk⟩
 ·show Tr.ls (l.map (L2.vw 5 S))=_
  rw[key]
 ·show (match cK S k with|some l=>Tr.ls (l.map (L2.vw 5 S))|none=>.hd k)=_
  have:cK S k=some l:=by unfold cK;rw[hk]
  rw[this];simp only[key]
theorem RD (h1:Jw S t1 l)(h2:Jw S t2 l)(hn:Tr.pS l=true)(hd:Tr.EA l<=5):cC neg t1 t2 S = .ok (.bl (!neg)) S:=by
 have e1:=h1.vw hn hd;have e2:=h2.vw hn hd;have e0:NO t1 t2=none:=by
  rcases h1 with rfl|⟨k,rfl,_⟩<;>rcases h2 with rfl|⟨k,rfl,_⟩<;>rfl
 unfold cC;rw[e0];simp only
 rw[e1,e2,if_pos];refine⟨rfl,by unfold Tr.qQ;exact hn,by unfold Tr.dp;omega,by unfold Tr.dp;omega⟩
theorem WD {l:List dP}(S:Cs):cC true (.ls (l.map dP.t)) (.ls (l.map dP.t)) S = .ok (.bl false) S:=by
 refine RD (neg:=true) (.inl rfl) (.inl rfl) ?_ (aac λt ht=>?_)
 ·rw[pZ,List.all_map,zaQ]
  intro _ _;rfl
 ·obtain⟨r,_,rfl⟩:=zba.mp ht
  simp[dP.t,B.t,Tr.dp,Tr.EA]
theorem af9 (rs:List dP)(i j:Nat)(h:i<=j):FD (rs.map dP.t) (some (i:Int)) (some (j:Int))=((rs.take j).drop i).map dP.t:=by
 rw[VS _ i j h,<-List.map_take,<-List.map_drop]
theorem aga (hD:cA S d k)(hk:k<100000)(rs:List dP)(hl:rs.length<=1000):∃(GK:List dP) (S':Cs),Jd [.hd d,.ls (rs.map dP.t)] S = .ok (.ls (GK.map dP.t)) S'/\Dk S S' d (k+3)/\GK.Sublist rs:=by
 obtain⟨a1,S1,l1,m1,e1,D1⟩:=d8 hD (by omega) (many:=2) (by decide) (by decide)
 unfold Jd;by_cases q:a1=0
 ·refine⟨rs,S1,?_,D1.mono (by omega),List.Sublist.refl _⟩
  simp?[e1,q]
 ·have z1:(rs.length<=sizeLine)=True:=bK (by omega)
  obtain⟨a2,S2,l2,m2,e2,D2⟩:=d8 D1.gR (by omega) (many:=(rs.length:Int)+1) (by omega) (by omega)
  obtain⟨a3,S3,l3,m3,e3,D3⟩:=d8 D2.gR (by omega) (many:=(rs.length:Int) - a2+1) (by omega) (by omega)
  obtain⟨i,rfl⟩:=zbn l2;obtain⟨j,rfl⟩:=zbn l3;have ec:=af9 rs i (i+j) (by omega)
  rw[show ((i+j:Nat):Int)=(i:Int)+(j:Int) by omega] at ec
  refine⟨(rs.take (i+j)).drop i,S3,?_,((D1.tr D2).tr D3).mono (by omega),(List.drop_sublist _ _).trans (List.take_sublist _ _)⟩
  simp?[e1,q,e2,e3,z1,ec,zad]
theorem RE (n:Nat)(i:Int)(S:Cs):iW (n+1) [.int i,.int i] S = .ok (.bl true) S:=by
 unfold iW;simp only[↓bp,bx,simprocAttr]
theorem RG (n:Nat)(x:Str)(S:Cs):iW (n+1) [.str x,.str x] S = .ok (.bl true) S:=by
 unfold iW;simp?[Ot]
theorem WE (hf:∀t∈l,(∃i,t = .int i)\/∃x,t = .str x)(hl:l.length<=1000)(S:Cs):iW 2 [.tp l,.tp l] S = .ok (.bl true) S:=by
 have h:=λi=>RE 0 i S
 have h':=λx=>RG 0 x S
 have c1:(l.length<=sizeLine)=True:=bK (by omega)
 rw[iW];have ez:∀(τ:En) (fr:En->Cs->R (List Tr)),rW fr τ S=(fr τ S).az rV:=λ_ _=>rfl
 have ek:∀l m:List Tr,rV [.tp l,.tp m] S = .ok ⟨oX l m,λ_=>True⟩ S:=λ_ _=>rfl
 simp?[ez,ek,beq_self_eq_true,c1];generalize hZ:jl _ _ _ _ _ _=Z
 obtain⟨qY,S',⟨⟨x2,x3,rfl⟩,rfl⟩,rfl⟩:=jc hZ (λi τ S'=>(∃x2 x3,τ=[some (Tr.tp l),some (Tr.tp l),x2,x3])/\S'=S) (λ_ _ _ _=>trivial) ⟨⟨_,_,rfl⟩,rfl⟩ (by
  rintro i u τ S' hi ⟨⟨x2,x3,rfl⟩,rfl⟩
  obtain⟨u1,u2,h1,h2,rfl⟩:=qa hi;rw[h1] at h2;cases h2;have e1:iW 1 [u1,u1] S' = .ok (.bl true) S':=by
   rcases hf u1 (zaZ h1) with⟨i,rfl⟩|⟨x,rfl⟩
   ·exact h i
   ·exact h' x
  exact⟨_,_,.inl (by simp?[e1];rfl),⟨_,_,rfl⟩,rfl⟩)
 simp only[↓bp,bx,simprocAttr]
theorem Lb (p:Int×V4)(S:Cs):iW 2 [gQ p,gQ p] S = .ok (.bl true) S:=
 WE (λt ht=>by
  simp only[zam,zav,or_false] at ht;rcases ht with rfl|rfl|rfl|rfl|rfl<;>exact .inl ⟨_,rfl⟩) (by simp) S
theorem WG:rV [.hd a,.hd b] S=adj [.hd a,.hd b] S:=rfl
theorem Eo {L:List (Int×V4)}{a b:Nat}{S:Cs}(ha:S[a]? = some (.bD (L.map gQ)))(hb:S[b]? = some (.bD (L.map gQ)))(hl:L.length<=1000):iW 3 [.hd a,.hd b] S = .ok (.bl true) S:=by
 have es:=λp S=>Lb p S
 rw[iW];have c1:(L.length<=sizeLine)=True:=bK (by omega)
 simp?[ha,hb,Ov,beq_self_eq_true,c1,Ou,ajo,WG];generalize hZ:jl _ _ _ _ _ _=Z
 obtain⟨qY,S',⟨⟨x2,x3,rfl⟩,rfl⟩,rfl⟩:=jc hZ (λi τ S'=>(∃x2 x3,τ=[some (Tr.hd a),some (Tr.hd b),x2,x3])/\S'=S) (by rintro i τ S' ⟨_,rfl⟩;simp only[ha,hb,cK,and_self]) ⟨⟨_,_,rfl⟩,rfl⟩ (by
  rintro i u τ S' hi ⟨⟨x2,x3,rfl⟩,rfl⟩
  obtain⟨u1,u2,h1,h2,rfl⟩:=qa hi;rw[h1] at h2;cases h2;rw[zar] at h1;obtain⟨p,rfl⟩:∃p,u1=gQ p:=by
   cases e:L[i]? with
   |none=>rw[e] at h1;cases h1
   |some p=>rw[e] at h1;cases h1;exact⟨p,rfl⟩
  have e1:=es p S';generalize gQ p=rp at *
  exact⟨_,_,.inl (by simp?[e1];rfl),⟨_,_,rfl⟩,rfl⟩)
 simp only[↓bp,bx,simprocAttr]
theorem law (ns:List Int)(B6:ns.length<=63):∃S,QN [.kl (ns.map .int)] [] = .ok (.bl true) S:=by
 obtain⟨c,e1,hD0⟩:=Ws ns B6 []
 have e1:DQ [.kl (ns.map .int)] [] = .ok (.hd 0) ([]++[c]):=e1
 have hD0:cA ([]++[c]) 0 0:=hD0
 generalize ([]:Cs)++[c]=S0 at *
 obtain⟨u,S1,dd,N,a,m,y,rs,e2,P⟩:=Ru hD0 (by decide)
 have e3:=akX P.gR P.fN;have ha:=P.gR.a;rw[P.a] at e3 ha;rw[P.fN] at e3;unfold mF at ha;have hrl:rs.length<=1000:=by have:=P.D.z.fN;have:=P.D.hn;rw[P.fN,zad] at *;omega
 obtain⟨X,S2,e4,D2,uf⟩:=aga P.dr (by decide) rs hrl
 have hk:∀r∈X,Rk r:=λr hr=>P.rk r (uf.subset hr)
 have xl:X.length<=1000:=by have:=uf.length_le;omega
 have hx:Ux X:=⟨List.Pairwise.sublist (uf.map _) P.up.up,λr hr=>by have:=P.up.bd r (uf.subset hr);have:=P.up.af4;omega⟩
 obtain⟨S3,e5,c3,J3,hJ3⟩:=ak8 (u:=u) hx hk xl S2
 obtain⟨n4,S4,e6,c4,⟨J4,hJ4⟩,l4⟩:=Z9 (u:=u) hx xl S3
 have c3':S4[S2.length]? = some (.bD ((fM (pe u) X).map gQ)):=by rw[hJ4];exact AY c3 _
 have tl:(fM (pe u) X).length<=1000:=by have:=(lS X).2.2;unfold fM;rw[zad];omega
 have e7:=Eo c4 c3' tl;have e8:=WD (l:=X) S4
 have lc:S2.length<S3.length:=bh c3
 have o_:n4≠S2.length:=by omega
 have c5:(S4.set n4 (.bD []))[S2.length]? = some (.bD ((fM (pe u) X).map gQ)):=by rw[zaK o_];exact c3'
 obtain⟨n6,S6,e9,c6,⟨J6,hJ6⟩,l6⟩:=Z9 (u:=u) hx xl (S4.set n4 (.bD []))
 have c5':S6[S2.length]? = some (.bD ((fM (pe u) X).map gQ)):=by rw[hJ6];exact AY c5 _
 have e10:=Eo c6 c5' tl;have gc:uD (.hd n4) [] S4 = .ok .bq (S4.set n4 (.bD [])):=by
  unfold uD;have:cK S4 n4=some ((fM (pe u) X).map gQ):=by unfold cK;rw[c4]
  simp only[this]
 have gk:LS S4 (.hd n4)=true:=by
  unfold LS w9;have:cK S4 n4=some ((fM (pe u) X).map gQ):=by unfold cK;rw[c4]
  simp only[this];rfl
 obtain⟨uT,LW⟩:∃uT,uT=u.t:=⟨_,rfl⟩
 rw[<-LW] at e2 e5 e6 e9;refine⟨S6,?_⟩
 unfold QN;generalize S4.set n4 (.bD [])=S5 at *
 simp?[fx,e1,e2,e3,e4,ha,e5,e6,e7,↓e8,↓gc,↓gk,e9,e10]
theorem zq1 {α:Type _}{P:List α -> Prop}(h:∀a,P [a]):∀us:List α,us.length=1->P us
 |[a],_=>h a
theorem zq2 {α:Type _}{P:List α -> Prop}(h:∀a b,P [a,b]):∀us:List α,us.length=2->P us
 |[a,b],_=>h a b
theorem zq3 {α:Type _}{P:List α -> Prop}(h:∀a b c,P [a,b,c]):∀us:List α,us.length=3->P us
 |[a,b,c],_=>h a b c
theorem WW {α:Type _}{P:List α -> Prop}(h:∀a b c d,P [a,b,c,d]):∀us:List α,us.length=4->P us
 |[a,b,c,d],_=>h a b c d
theorem Ex {α:Type _}{P:List α -> Prop}(h:∀a b c d e,P [a,b,c,d,e]):∀us:List α,us.length=5->P us
 |[a,b,c,d,e],_=>h a b c d e
section
variable {K:W.Frag}{h:Heap}{mg:Str->Option Value}{C:Addr}{x bY:Str}{st:Stmt}{ps:List Str}{f:Addr}{oc:Value}{od an:Option Addr}{E4:Array (Option Value)}{kV oO pm fG ct:Value}(X:K.In h)(G:h.Ns mainGlobals mg)
include X G in
theorem dmk (hb:∀(kV oO pm:Value) (an:Option Addr) (fG ct:Value) (us:List Value),us.length=ps.length->bindArgs (W.fnOf x x (d_ st) (cT st) (aj st) .none kV oO pm an fG ct) ⟨us,[]⟩=pure (ps.zip us))(a:W.nsIn K mainGlobals x=some (some (.ref f)))(l:K.lookup f=some ⟨oc,od,.func (W.fnOf x x (d_ st) (cT st) (aj st) .none kV oO pm an fG ct),E4⟩)(c:W.codeIn K fG x=true)(k:W.keepIn K (.ref f)=true):oF K mg x st ps f (W.fnOf x x (d_ st) (cT st) (aj st) .none kV oO pm an fG ct):=⟨Ao l c k,W.mg_of X G a,(Ao l c k).rH hb⟩
theorem mmk (hb:∀(kV oO pm:Value) (an:Option Addr) (fG ct:Value) (us:List Value),us.length=ps.length->bindArgs (W.fnOf x bY (d_ st) (cT st) (aj st) .none kV oO pm an fG ct) ⟨us,[]⟩=pure (ps.zip us))(a:W.findIn K (.ref C) x=some (some (.ref f)))(i:W.isFn K (.ref f)=true)(l:K.lookup f=some ⟨oc,od,.func (W.fnOf x bY (d_ st) (cT st) (aj st) .none kV oO pm an fG ct),E4⟩)(c:W.codeIn K fG bY=true)(k:W.keepIn K (.ref f)=true):mj K C x bY st ps f (W.fnOf x bY (d_ st) (cT st) (aj st) .none kV oO pm an fG ct):=⟨Ao l c k,⟨a,i,k⟩,(Ao l c k).rH hb⟩
end
theorem aoY {l:W.OpenLaw}{w:World}{K:W.Frag}{h:Heap}{mg:Str->Option Value}{fa:Addr}(X:K.In h)(G:h.Ns mainGlobals mg)(hfa:mg "law"=some (.ref fa)){CY CZ C0 C1 u9 C2 y9 y_ zc zd ze zf zg zh zj C3 zk zl zo KG C4 C5 C6 C7 C8 C9 C_ zq F9 zu Dc Dd KH KI KJ KL KN zv zw KO KP De Df zx zy zz zA KQ zB zC zD zE zF Dg Dh Di Dl Dm zG Dn Dp Dq Ds Dt Du Dv Dw:Addr}{u_ vc vd ve vf vg vh vj vm vn vo vp vq vz vA vD vE vF vG Dy vH vI vJ vK vL vM vN vO Dz vP vQ vR DA DB DC DE DF vS vU DG DH vV vW vX vY vZ v_ DI wc we wg wj wm wo wu wz wA wB wC wD wF wG wH wI wJ wK oZ:FuncData}{aL a_:Addr}{iZ jL A_ i6 i7 nK i8 jM lJ nL Ik lK i9 jN nM:Tok}(TF:TxF K mg (AdF.mk CY CZ C0 C1 u9 C2 y9 y_ zc zd ze zf zg zh zj C3 zk zl zo KG C4 C5 C6 C7 C8 C9 C_ zq F9 zu Dc Dd KH KI KJ KL KN zv zw KO KP De Df zx zy zz zA KQ zB zC zD zE zF Dg Dh Di Dl Dm zG Dn Dp Dq Ds Dt Du Dv Dw u_ vc vd ve vf vg vh vj vm vn vo vp vq vz vA vD vE vF vG Dy vH vI vJ vK vL vM vN vO Dz vP vQ vR DA DB DC DE DF vS vU DG DH vV vW vX vY vZ v_ DI wc we wg wj wm wo wu wz wA wB wC wD wF wG wH wI wJ wK oZ aL a_ iZ jL A_ i6 i7 nK i8 jM lJ nL Ik lK i9 jN nM))
  {aV:Addr} {cdB:ClassData} {nmB qB:Str} {NB:Addr} {bsB aoZ:List Value} {UN:Bool} {snB:List Str} {abB:Bool} {ao0:Option Bool} {ddB:Option Addr} {kaB kbB kcB kdB keB:Option Value} {ao1:String} {Lc RH:Str} {RI bJ aY:Addr} {Ld GP:List Value} {Le:List Str} {Lg:Bool} {GQ:Option Bool} {Lh:Option Addr} {Li Lj Lk Ll Ln:Option Value} {GR lT:Option Addr} {GS:Array (Option Value)} {GU lU lV lW jx lX:Value} {nD:Addr} {GV:Value} {GW:Option Addr} {Lo:Nat} {GX:Array (Option Value)} {jd:Tok}
  (ao2:W.nsIn K mainGlobals "BookError"=some (some (.ref aV)))
  (ao3:W.clsIn K aV=some cdB)
  (ao4:W.typeIn K (.ref aV)=some (.type "type"))
  (ao5:W.specialIn K (.ref aV) "__getattribute__"=some (some (.builtin "type.__getattribute__")))
  (ao6:W.readsIn K aV (.type "type")=true)
  (ao7:W.findCls K (.ref aV) (.type "type") "__init__"=some (.val (.builtin "ValueError.__init__")))
  (ao8:W.tailIn K sS (.ref aV::sS)=true)
  (ao9:K.lookup aV=some (excClassObj nmB qB aV NB bsB sS UN snB aoZ abB ao0 ddB kaB kbB kcB kdB keB ao1))
  (xgc:W.specialIn K (.builtin "object.__class__") "__get__"=some (some (.builtin "getset_descriptor.__get__")))
  (xtc:W.takesIn K (.builtin "object.__class__")=some true)
  (zX:W.nsIn K mainGlobals "NotLet"=some (some (.ref bJ)))
  (Lp:K.lookup bJ=some (excClassObj Lc RH bJ RI Ld (.ref aV::sS) true Le GP Lg GQ Lh Li Lj Lk Ll Ln "ValueError.__new__"))
  (Lq:W.findIn K (.ref bJ) "__init__"=some (some (.ref aY)))
  (Lr:W.typeIn K (.ref aY)=some (.type "function"))
  (Ls:W.keepIn K (.ref bJ)=true)
  (Lu:W.findIn K (.ref bJ) "__setattr__"=some (some (.builtin "object.__setattr__")))
  (Lv:W.findIn K (.ref bJ) "__getattribute__"=some (some (.builtin "BaseException.__getattribute__")))
  (Lw:W.findIn K (.ref bJ) "__getattr__"=some none)
  (Lx:W.findIn K (.ref bJ) "__class__"=some (some (.builtin "object.__class__")))
  (wY:W.findIn K (.ref bJ) "rule"=some none)
  (rF:W.findIn K (.ref bJ) "number"=some none)
  (Lz:K.lookup aY=some ⟨GU,GR,.func (W.fnOf "__init__" "NotLet.__init__" (d_ dO) (cT dO) (aj dO) (.ref nD) lU lV lW lT jx lX),GS⟩)
  (LA:W.codeIn K jx "NotLet.__init__"=true)
  (zY:K.lookup nD=some ⟨GV,GW,.seq #[.int 0 jd] Lo,GX⟩)
  (LB:bJ≠aV)
  : ∃fd:FuncData,(∀(s:Shared) (v:Value),BindsTo s fd ⟨[v],[]⟩ [("_law_script",v)])/\∀base:Heap,K.In base->base.Ns mainGlobals mg->aP l.prog w K mg base eO 11 fa fd ["_law_script"] (HW K):=by
 have e:=hfa.symm.trans TF.Pw.m;cases e;have Ep:sU K bJ aY (.ref aV::sS):=⟨⟨_,_,_,_,_,_,_,_,_,_,_,_,_,_,Lp⟩,ao8,Lq,Lr,Ls,Lu,Lv,Lw,Lx,⟨_,rfl⟩⟩
 have LC:eW K (W.fnOf "__init__" "NotLet.__init__" (d_ dO) (cT dO) (aj dO) (.ref nD) lU lV lW lT jx lX) ["self","words","rule","number"] []:=λs us X' hl=>by
  rw[zax] at hl ⊢
  match us,hl with|[_,_,_,_],_=>exact W.binds_K X' rfl zY rfl rfl rfl
 have GY:eW K (W.fnOf "__init__" "NotLet.__init__" (d_ dO) (cT dO) (aj dO) (.ref nD) lU lV lW lT jx lX) ["self","words","rule","number"] [.int 0 jd]:=λs us X' hl=>by
  have An:us.length=3:=by simpa using hl
  match us,An with|[_,_,_],_=>exact W.binds_K X' rfl zY rfl rfl rfl
 have apa:∀p∈([("NotLet",bJ,aY)]:List (Str×Addr×Addr)),mg p.1=some (.ref p.2.1)/\sU K p.2.1 p.2.2 (.ref aV::sS):=by
  intro p hp;simp only[zam,zav,or_false] at hp;rcases hp with rfl
  ·exact⟨W.mg_of X G zX,Ep⟩
 let a:Ad:={ toAdF:=AdF.mk CY CZ C0 C1 u9 C2 y9 y_ zc zd ze zf zg zh zj C3 zk zl zo KG C4 C5 C6 C7 C8 C9 C_ zq F9 zu Dc Dd KH KI KJ KL KN zv zw KO KP De Df zx zy zz zA KQ zB zC zD zE zF Dg Dh Di Dl Dm zG Dn Dp Dq Ds Dt Du Dv Dw u_ vc vd ve vf vg vh vj vm vn vo vp vq vz vA vD vE vF vG Dy vH vI vJ vK vL vM vN vO Dz vP vQ vR DA DB DC DE DF vS vU DG DH vV vW vX vY vZ v_ DI wc we wg wj wm wo wu wz wA wB wC wD wF wG wH wI wJ wK oZ aL a_ iZ jL A_ i6 i7 nK i8 jM lJ nL Ik lK i9 jN nM,aV:=aV,bJ:=bJ,aY:=aY,eF:=W.fnOf "__init__" "NotLet.__init__" (d_ dO) (cT dO) (aj dO) (.ref nD) lU lV lW lT jx lX,jd:=jd}
 have T:Txt K mg a:={
  toTxF:=TF
  Er:=⟨W.mg_of X G ao2,⟨ao5,ao6,ao7⟩,by show (W.clsIn K aV).isSome=true;rw[ao3];rfl,ao4,⟨_,_,_,_,_,_,_,_,_,_,_,_,_,_,_,_,ao9⟩,⟨xgc,xtc⟩,apa⟩
  gz:=⟨Ep,W.mg_of X G zX,LC,⟨_,_,_,_,_,_,_,_,_,_,_,rfl,Lz,LA⟩⟩
  zH:=GY
  nq:=wY
  kK:=rF
  KW:=LB
 }
 obtain⟨_,_,_,_,_,_,_,_,_,ef,_⟩:=TF.Pw.F.ex;exact⟨oZ,λs v=>by rw[show oZ=_ from ef];exact .of_eq rfl,λbase _ _=>acC (aez T) law⟩
theorem walk {l:W.OpenLaw}{q:Program}{yw:List Str}{XP:(Str->Option Value)->Heap->Prop}{YP:World->Heap->Prop}{d:DefRec}{K:Params->W.Frag}(hn:l.most=some 63)(hdf:d.params.defaults=[])
  (hY:∀(w:World) (h:Heap),YP w h->(K w.params).In h)
  (F:∀(w:World) (mg:Str->Option Value) (fa:Addr) (h:Heap),(K w.params).In h->h.Ns mainGlobals mg->mg d.name=some (.ref fa) ->
   ∃fd:FuncData,(∀(s:Shared) (u:Value),BindsTo s fd ⟨[u],[]⟩ [("_law_script",u)])/\∀base:Heap,(K w.params).In base->base.Ns mainGlobals mg->aP l.prog w (K w.params) mg base eO 11 fa fd ["_law_script"] (HW (K w.params))):
  W.WalkO q yw XP YP l.row.toRowW d [] (λf vs=>PySem.call f vs):=
 L2.Tj (n:=63) (k:=11) (x:= "_law_script") (CX:=λ_=>eO) (sp:=λw=>HW (K w.params)) hn (by decide) hdf ⟨rfl,by decide,by decide⟩ hY F (λ_ _ a ns hl _ hS=>⟨a,ns,rfl,hS,hl,λ_=>rfl⟩) λ_ _ _ _ _ z=>z
end My
structure PySem.W.Fast:Prop where(tw11749476934425953134 tw16916235602894905394 tw11977219996502526635 tw17653047825979090606 tw11542422136075265911 tw9877070135923081572 tw118296656021895941 tw17333081409925085881 tw878756266462319289 tw786939599157980630 tw8624881919122839101 tw14763843120035919590 tw9522129879432060725 tw12009589833318768261 tw15726664851990127619 tw4673145952353658110 tw3929049920300794327 tw6999921963227578243 tw8672202735599432745 tw17818404997864653089 tw12061607801783304399 tw2278859630843994354 tw12857133986883951309 tw5675776813859026887 tw14828825965379550753 tw16182774136829405746 tw12726658983496960734 tw8325186196459593205 tw17565586237893513720 tw7265891423208450385 tw15867849786466474911 tw15675414949086703343 tw17438928590302139849 tw18093089145608164838 tw10252303355165024024 tw13756058513738303466 tw12420820019760260338 tw17698288494034025455 tw12721050570079239998 tw16862827290697386074 tw5178000782070553731 tw16071928017372470416 tw16553615051345271693 tw3603056993336634562 tw11238535240368691133 tw11466741351740861985 tw15037584828105673298 tw10542058404306969545 tw11795660450625911705 tw1204461243983976452 tw5899387951371556709 tw17874447428378211676 tw3153024559953438988 tw4995097647614708423 tw17620153563467068992 tw8830320306058455652 tw7133434313018964228 tw5290688189408959335 tw6215309206939886630 tw3736668320712323352 tw10737278643192008091 tw1388026225633921408 tw462622697536172115 tw17654700899886585803 tw2815854605711055488 tw14990160190061004055 tw16243699235899180070 tw2123209368292060449 tw17501373772863704469 tw7478174096892930623 tw11356865560824419102 tw9433828713147071683 tw4277928341468012582 tw3296184813729298982 tw11272709263404972802 tw5842109349524306530 tw2753363952201251463 tw12060631681311907036 tw1000399822471417411 tw3790597779084721135 tw7567176033675810400 tw18432066244742429056 tw1866926837904104055 tw17906241089571818767 tw12738922600702168502 tw1315881495870056003 tw1826990977957159008 tw18110410206771895649 tw4721491366937560801 tw6876138289613153105 tw7721226452566570676 tw5853078666055318298 tw14825186425375036433 tw9608969457947370534 tw298864210682016630 tw14329290137698509731 tw17092819686314374684 tw9826202525495924991 tw7186295018472670661 tw6956723468397457384 tw2372657101901685280 tw5564816557595828493 tw17049532680052873257 tw11621186563095073955 tw2369869546196898983 tw12080834303577859904 tw12887674730703650685 tw6388874824276271589 tw8197958975811224391 tw7401136273722879271 tw16420308054289914097 tw5574537960208093036 tw2681022959658873828 tw616428910895982576 tw6617965104565712467 tw7245274996066794594 tw15832305661747753257 tw7707157202731133839 tw16775161347261881707 tw10282169583923811354 tw14182654613094613730 tw2224339856989208626 tw5272755050063419575 tw13219104655696310328 tw13345650280937662728 tw6457866406366838924 tw7386334080671686903 tw3682479067904641216 tw10381405692882188869 tw10959978044592884247 tw6215728570575147356 tw2884016362562891306 tw13877948794864118853 tw5430407037725652792 tw3556579126326901622 tw11500224137604017123 tw10595776796377444439 tw14456979258608088807 tw16798828491910058641 tw16373812785978916503 tw14167825191673925348 tw1952717261275975231 tw14405507891759627278 tw13911264874616021991 tw12016707514259033216 tw9337162464562741221 tw14652199907913799871 tw9645833598379294529 tw8299727174324880632 tw5052703151718401105 tw18198372246459467798 tw18251340880034959598 tw2200325600048598784 tw1019727223900517272 tw14162360774183547854 tw17271437269708990310 tw16683652968765540309 tw2062724292059923200 tw7880466518249212898 tw918936663359353206 tw13714076662852195780 tw4651740373924938079 tw16519117535883909886 tw14308412632338343734 tw2161466411491046877 tw8272227397496184720 tw11570116329198633416 tw13778239503674589330 tw6169844718055594843 tw16916402797343265909 tw13785135273017923707 tw8456300732433197220 tw3667832031035306162 tw3746918714150892980 tw16116350207719501214 tw3373973232112155719 tw16980222486012126911 tw6444087382330386468 tw8331048471993116143 tw16486691852967159382 tw5835081784634192752 tw344543715488489351 tw8863818460080583029 tw7761717929897122250 tw8203001329589419198 tw15076073798745722086 tw16499982608053630415 tw16740831025589891622 tw9773142375695683547 tw4290728714082259068 tw386788011006990175 tw15049428144811482195 tw4407262649527217149 tw6124592156937384009 tw1646549410464837607 tw8361950836534171967 tw7052511956933199007 tw12507395005690541062 tw16768064281358499401 tw12626590165582135494 tw1185222978345789827 tw14247545879196364882 tw17209422267732744867 tw8030324323971314875 tw2002590112011875010 tw3490033141847919212 tw3174788257934865251 tw17695088136201971054 tw13412954169272817398 tw3418025806666204607 tw10625717278362712870 tw8360967372627304002 tw18271913796988715654 tw6497066970915320731 tw16297234915482739921 tw8827447067061903111 tw10070947651074075225 tw6257162769823373545 tw16443434420937853559 tw8721040598359349646 tw6578166587180143644 tw4601376135761748528 tw14263590171862979016 tw9864279887328968920 tw17024671458628237658 tw6624454685411481415 tw17072211430210470926 tw13711279197426276285 tw4460031167078939664 tw17929795323275189482 tw15052108885358692075 tw17701440297298968553 tw14591804331088015475 tw2666144735555175157 tw15586311842051241584 tw6641821284720114512 tw10795250384089104790 tw587095983178515856 tw14379387889005123869 tw5995879893233444636 tw9457933242034976186 tw1008336109430909144 tw3438280579474676075 tw16384986940798179820 tw7714868939772082799 tw13876013873220440171 tw14230038929967489520 tw17301299868253336833 tw17541108130036254185 tw10103861922886326555 tw14834731807278183191 tw1153440085315604145 tw8976041694107685214 tw10000890465687663409 tw495938049644607512 tw9175832244043531230 tw14134638757922857937 tw11195708742824487813 tw6019138538175207522 tw15519399610925672936 tw14958054380550580036 tw1723214017963470409 tw13493351812220303392 tw17607016758400387102 tw17717648418309473696 tw12271070221794683174 tw7307182171642338991 tw3174498261510482603 tw9970669416531124588 tw9623615289360337424 tw7278855585533466712 tw538079719634083170 tw12140743071186912020 tw1858406202540184154 tw16588762853177180091 tw10383066270215011333 tw10940501270760624486 tw2634985022101882400 tw8972407972186091002 tw2699451248554627713 tw15287583546487219709 tw10337351487491595172 tw461286593925229095 tw6162030076128673177 tw15398795662234342250 tw13773732009354209612 tw13557446905777902726 tw10115925729951142931 tw8431784340746149949 tw14021158397996290874 tw15952919441982830848 tw5026508782561765744 tw16561169169005379686 tw6415179352420304712 tw14090385592030091075 tw4781136053280852855 tw8188845824446969746 tw6358435843560859198 tw1432085243957442656 tw15601345048474536116 tw1337375633022672594 tw11880301219208954754 tw5783593659861175058 tw17527479034238576947 tw15823353415958011740 tw2771445834340406370 tw671293779883924455 tw15301235149925830301 tw15238268292697410639 tw18126254973473036470 tw4339913147611678302 tw13899289923378972621 tw12916461808854193963 tw6149186454272938658 tw13899017393280884738 tw1918310190689500441 tw6679423532434488150 tw13137065367681602431 tw1198079950871318811 tw13556253115270176971 tw12554346305582317255 tw11802256526017368307 tw1363573789149452880 tw10744042105161206916 tw1079595991117914102 tw4664276471268252242 tw12326686009488148423 tw4571325857276371355 tw16222695983156887116 tw505412671674092978 tw11661159936126970832 tw17611269459978326515 tw684728815252465247 tw2222946967313194942 tw11466308246380077469 tw16356436695367597119 tw16371922079557580686 tw324426459131830983 tw17326108220454058859 tw16162629023232049456 tw1680068087166045469 tw1758973774402760114 tw5643457957345964261 tw1525945614111041818 tw12116209653360589548 tw16374946565240609460 tw10208532131900617469 tw12072458622037913671 tw15401980553468820015 tw15535513239799359089 tw7833708590321743075 tw13516582317507213838 tw16520642417643741963 tw15320893401302766692 tw14457754206535238937 tw11937651015390956365 tw12619862761961356280 tw6884520164337942825 tw9150203551045339822 tw10152394778462415692 tw2138124831308264612 tw14113844829051155339 tw18293426587552802676 tw13507382777907660366 tw8119977190862463918 tw9803126549584364199 tw3244118017760591737 tw3870861986503558093 tw2741901320424592618 tw7041162015682733326 tw10370190890029989883 tw12540473372200213599 tw1990085535955838579 tw1367960946217437282 tw17241332499737641322 tw6056548069143752915 tw11105003882626474823 tw17562897538830252956 tw15604762034700012815 tw12462643191186879447 tw880393186209605738 tw7581496854310702203 tw4735849012496816402 tw15464824627441796464 tw3903623875427905849 tw12283219740597960906 tw12804440787881357708 tw7453725425579752710 tw11577057751909622759 tw9176880629641843593 tw5525111204008737473 tw10382936840313736753 tw9719148136218166821 tw436666154099974001 tw3052920963125815424 tw4432364924367636632 tw8910802646276197874 tw12817436031367267796 tw9640426455283259295 tw11866689433456728613 tw8026721384323040935 tw4778841889299268719 tw1500526578819887687 tw17294309881851869054 tw6884107810922076869 tw1291867816027328257 tw5207266015584382089 tw3969400934223643730 tw14985345453787789430 tw4580654927784523556 tw2380260083180762461 tw1414789983196963539 tw17459626992676752202 tw12705773560647425113 tw8312061139764101903 tw16343174697307580633 tw15031363841124491536 tw185158552958366998 tw15106621509605590040 tw12024396817008803779 tw8030839503389957975 tw3865367011326522211 tw8212045817833716906 tw8226066970997411111 tw16210269258464473498 tw1000681588202256888 tw7686253809992122517 tw17522174583676161256 tw8630135019126586877 tw2036220121851043631 tw8201465273014269214 tw13613025306159567745 tw7257697963987331803 tw1412419504699759274 tw9507107279580441602 tw11844555942633190610 tw14863664157460554062 tw134029249054294013 tw4105081863302975859 tw1720255125625551419 tw3892504226366681563 tw166253459520963205 tw17300330583227130669 tw12670908116770697488 tw6842270048244590529 tw17286561766560679114 tw3166019549353164852 tw7775254523434416919 tw13494944410913252120 tw6967414848727913894 tw5458906893375390942 tw9042818852167377345 tw4595869224968990834 tw11154157021883880391 tw14548359236299764630 tw3632630900810997262 tw13522131964224249605 tw6570700321961182805 tw16422529560934198772 tw1672186837649273168:True)
open PySem PySem.W PyProof.Rows
set_option maxRecDepth 100000 in
set_option maxHeartbeats 0 in
theorem PySem.Challenge.cw_inningsbook_k42_extras_holds : PySem.Challenge.rw_inningsbook_k42_extras.Holds := by
  w_on; o_law; k_head; (case hw => w_witness2)
  k_fill
  refine My.walk (l := PySem.Challenge.rw_inningsbook_k42_extras) rfl rfl (fun w h Y => PySem.W.kIn_of Y) ?F
  case F =>
    intro w mg fa h KX G hmg
    refine' My.aoY KX G hmg ⟨PySem.W.mg_none_of KX G ?_,PySem.W.mg_none_of KX G ?_,PySem.W.mg_none_of KX G ?_,PySem.W.mg_none_of KX G ?_,PySem.W.mg_none_of KX G ?_,PySem.W.mg_none_of KX G ?_,PySem.W.mg_none_of KX G ?_,PySem.W.mg_none_of KX G ?_,PySem.W.mg_none_of KX G ?_,PySem.W.mg_none_of KX G ?_,PySem.W.mg_none_of KX G ?_,PySem.W.mg_none_of KX G ?_,PySem.W.mg_none_of KX G ?_,PySem.W.mg_none_of KX G ?_,PySem.W.mg_of KX G ?_,PySem.W.mg_of KX G ?_,PySem.W.mg_of KX G ?_,PySem.W.mg_of KX G ?_,PySem.W.mg_of KX G ?_,PySem.W.mg_of KX G ?_,PySem.W.mg_of KX G ?_,PySem.W.mg_of KX G ?_,PySem.W.mg_of KX G ?_,PySem.W.mg_of KX G ?_,PySem.W.mg_of KX G ?_,PySem.W.mg_of KX G ?_,PySem.W.mg_of KX G ?_,PySem.W.mg_of KX G ?_,PySem.W.mg_of KX G ?_,My.dmk KX G (λ_ _ _ _ _ _=>My.zq1 λ_=>rfl) ?_ ?_ ?_ ?_,My.dmk KX G (λ_ _ _ _ _ _=>My.zq2 λ_ _=>rfl) ?_ ?_ ?_ ?_,My.dmk KX G (λ_ _ _ _ _ _=>My.zq1 λ_=>rfl) ?_ ?_ ?_ ?_,My.dmk KX G (λ_ _ _ _ _ _=>My.zq2 λ_ _=>rfl) ?_ ?_ ?_ ?_,My.mmk (λ_ _ _ _ _ _=>My.zq3 λ_ _ _=>rfl) ?_ ?_ ?_ ?_ ?_,My.dmk KX G (λ_ _ _ _ _ _=>My.zq2 λ_ _=>rfl) ?_ ?_ ?_ ?_,My.mmk (λ_ _ _ _ _ _=>My.zq1 λ_=>rfl) ?_ ?_ ?_ ?_ ?_,My.mmk (λ_ _ _ _ _ _=>My.zq1 λ_=>rfl) ?_ ?_ ?_ ?_ ?_,My.mmk (λ_ _ _ _ _ _=>My.zq2 λ_ _=>rfl) ?_ ?_ ?_ ?_ ?_,My.mmk (λ_ _ _ _ _ _=>My.zq2 λ_ _=>rfl) ?_ ?_ ?_ ?_ ?_,My.mmk (λ_ _ _ _ _ _=>My.zq1 λ_=>rfl) ?_ ?_ ?_ ?_ ?_,My.mmk (λ_ _ _ _ _ _=>My.zq1 λ_=>rfl) ?_ ?_ ?_ ?_ ?_,My.mmk (λ_ _ _ _ _ _=>My.zq2 λ_ _=>rfl) ?_ ?_ ?_ ?_ ?_,My.mmk (λ_ _ _ _ _ _=>My.zq2 λ_ _=>rfl) ?_ ?_ ?_ ?_ ?_,My.mmk (λ_ _ _ _ _ _=>My.zq2 λ_ _=>rfl) ?_ ?_ ?_ ?_ ?_,My.dmk KX G (λ_ _ _ _ _ _=>My.zq2 λ_ _=>rfl) ?_ ?_ ?_ ?_,My.mmk (λ_ _ _ _ _ _=>My.zq3 λ_ _ _=>rfl) ?_ ?_ ?_ ?_ ?_,My.mmk (λ_ _ _ _ _ _=>My.zq1 λ_=>rfl) ?_ ?_ ?_ ?_ ?_,My.mmk (λ_ _ _ _ _ _=>My.zq1 λ_=>rfl) ?_ ?_ ?_ ?_ ?_,My.mmk (λ_ _ _ _ _ _=>My.zq1 λ_=>rfl) ?_ ?_ ?_ ?_ ?_,My.dmk KX G (λ_ _ _ _ _ _=>My.zq2 λ_ _=>rfl) ?_ ?_ ?_ ?_,My.dmk KX G (fun _ _ _ _ _ _=>My.WW (fun _ _ _ _=>rfl)) ?_ ?_ ?_ ?_,My.dmk KX G (λ_ _ _ _ _ _=>My.zq1 λ_=>rfl) ?_ ?_ ?_ ?_,My.dmk KX G (λ_ _ _ _ _ _=>My.zq2 λ_ _=>rfl) ?_ ?_ ?_ ?_,My.dmk KX G (λ_ _ _ _ _ _=>My.zq3 λ_ _ _=>rfl) ?_ ?_ ?_ ?_,My.dmk KX G (fun _ _ _ _ _ _=>My.WW (fun _ _ _ _=>rfl)) ?_ ?_ ?_ ?_,My.dmk KX G (fun _ _ _ _ _ _=>My.Ex (fun _ _ _ _ _=>rfl)) ?_ ?_ ?_ ?_,My.mmk (λ_ _ _ _ _ _=>My.zq2 λ_ _=>rfl) ?_ ?_ ?_ ?_ ?_,My.mmk (fun _ _ _ _ _ _=>My.Ex (fun _ _ _ _ _=>rfl)) ?_ ?_ ?_ ?_ ?_,My.mmk (λ_ _ _ _ _ _=>My.zq2 λ_ _=>rfl) ?_ ?_ ?_ ?_ ?_,My.dmk KX G (λ_ _ _ _ _ _=>My.zq3 λ_ _ _=>rfl) ?_ ?_ ?_ ?_,My.dmk KX G (λ_ _ _ _ _ _=>My.zq2 λ_ _=>rfl) ?_ ?_ ?_ ?_,My.mmk (λ_ _ _ _ _ _=>My.zq2 λ_ _=>rfl) ?_ ?_ ?_ ?_ ?_,My.mmk (λ_ _ _ _ _ _=>My.zq1 λ_=>rfl) ?_ ?_ ?_ ?_ ?_,My.mmk (λ_ _ _ _ _ _=>My.zq2 λ_ _=>rfl) ?_ ?_ ?_ ?_ ?_,My.mmk (λ_ _ _ _ _ _=>My.zq3 λ_ _ _=>rfl) ?_ ?_ ?_ ?_ ?_,My.mmk (λ_ _ _ _ _ _=>My.zq2 λ_ _=>rfl) ?_ ?_ ?_ ?_ ?_,My.mmk (λ_ _ _ _ _ _=>My.zq3 λ_ _ _=>rfl) ?_ ?_ ?_ ?_ ?_,My.mmk (λ_ _ _ _ _ _=>My.zq2 λ_ _=>rfl) ?_ ?_ ?_ ?_ ?_,My.mmk (λ_ _ _ _ _ _=>My.zq2 λ_ _=>rfl) ?_ ?_ ?_ ?_ ?_,My.mmk (λ_ _ _ _ _ _=>My.zq2 λ_ _=>rfl) ?_ ?_ ?_ ?_ ?_,My.dmk KX G (λ_ _ _ _ _ _=>My.zq3 λ_ _ _=>rfl) ?_ ?_ ?_ ?_,My.dmk KX G (λ_ _ _ _ _ _=>My.zq3 λ_ _ _=>rfl) ?_ ?_ ?_ ?_,My.mmk (λ_ _ _ _ _ _=>My.zq3 λ_ _ _=>rfl) ?_ ?_ ?_ ?_ ?_,My.mmk (λ_ _ _ _ _ _=>My.zq3 λ_ _ _=>rfl) ?_ ?_ ?_ ?_ ?_,My.mmk (λ_ _ _ _ _ _=>My.zq1 λ_=>rfl) ?_ ?_ ?_ ?_ ?_,My.mmk (λ_ _ _ _ _ _=>My.zq2 λ_ _=>rfl) ?_ ?_ ?_ ?_ ?_,My.mmk (λ_ _ _ _ _ _=>My.zq2 λ_ _=>rfl) ?_ ?_ ?_ ?_ ?_,My.mmk (λ_ _ _ _ _ _=>My.zq2 λ_ _=>rfl) ?_ ?_ ?_ ?_ ?_,My.mmk (λ_ _ _ _ _ _=>My.zq2 λ_ _=>rfl) ?_ ?_ ?_ ?_ ?_,My.mmk (λ_ _ _ _ _ _=>My.zq1 λ_=>rfl) ?_ ?_ ?_ ?_ ?_,My.mmk (λ_ _ _ _ _ _=>My.zq1 λ_=>rfl) ?_ ?_ ?_ ?_ ?_,My.mmk (λ_ _ _ _ _ _=>My.zq1 λ_=>rfl) ?_ ?_ ?_ ?_ ?_,My.dmk KX G (λ_ _ _ _ _ _=>My.zq2 λ_ _=>rfl) ?_ ?_ ?_ ?_,My.dmk KX G (λ_ _ _ _ _ _=>My.zq2 λ_ _=>rfl) ?_ ?_ ?_ ?_,My.dmk KX G (λ_ _ _ _ _ _=>My.zq2 λ_ _=>rfl) ?_ ?_ ?_ ?_,My.dmk KX G (λ_ _ _ _ _ _=>My.zq1 λ_=>rfl) ?_ ?_ ?_ ?_,My.dmk KX G (λ_ _ _ _ _ _=>My.zq2 λ_ _=>rfl) ?_ ?_ ?_ ?_,My.mmk (λ_ _ _ _ _ _=>My.zq1 λ_=>rfl) ?_ ?_ ?_ ?_ ?_,My.dmk KX G (λ_ _ _ _ _ _=>My.zq2 λ_ _=>rfl) ?_ ?_ ?_ ?_,My.dmk KX G (λ_ _ _ _ _ _=>My.zq1 λ_=>rfl) ?_ ?_ ?_ ?_,My.dmk KX G (λ_ _ _ _ _ _=>My.zq2 λ_ _=>rfl) ?_ ?_ ?_ ?_,My.dmk KX G (λ_ _ _ _ _ _=>My.zq2 λ_ _=>rfl) ?_ ?_ ?_ ?_,My.dmk KX G (λ_ _ _ _ _ _=>My.zq1 λ_=>rfl) ?_ ?_ ?_ ?_,My.dmk KX G (λ_ _ _ _ _ _=>My.zq2 λ_ _=>rfl) ?_ ?_ ?_ ?_,My.dmk KX G (λ_ _ _ _ _ _=>My.zq2 λ_ _=>rfl) ?_ ?_ ?_ ?_,My.dmk KX G (λ_ _ _ _ _ _=>My.zq1 λ_=>rfl) ?_ ?_ ?_ ?_,⟨PySem.W.mg_of KX G ?_,⟨?_,?_,?_,?_⟩,⟨?_,?_,?_,?_⟩⟩,?_,?_,?_,?_,?_,?_,?_,?_,?_,?_,?_,?_,⟨PySem.W.mg_of KX G ?_,⟨?_,?_,?_,?_⟩,⟨?_,?_,?_,?_⟩⟩,?_,?_,?_,?_,?_,?_,?_⟩ ?_ ?_ ?_ ?_ ?_ ?_ ?ao8 ?_ ?_ ?_ ?_ ?_ ?_ ?_ ?_ ?_ ?_ ?_ ?_ ?_ ?_ ?_ ?_ ?_ ?LB
    any_goals first | k_is | (dsimp only[L2.cu]; k_is)
    any_goals first | k_is | (dsimp only[L2.cu]; k_is)
    (case ao8=>kernel_rfl)
    (case LB=>decide)
