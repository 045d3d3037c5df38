import PyProof.Rows.All
import Wide.All
import OpenK.AllK
import Wide.FinOn
import Lean
import PyProof.EqAt
import PyProof.EqKinds
import PyProof.TupleCall
import PyProof.ExcInit
import PyProof.ExcClass3
import OpenK.KOwn
import PyProof.ExcAttrAll.ValueError
import OpenK.KDescr
import KE.KIsNot
import PyProof.NeKinds
import PyProof.Draws
import PyProof.EnumMake
import PyProof.ZipIter
import KE.KListMore
import PyProof.Rows.FStr
import PyProof.FString
import PyProof.Rows.CallKw2
import PyProof.StrLawsTight
import PyProof.CompUse
import PyProof.CompFree
import PyProof.RaisesMany
import PyProof.NsDelKeeps
import PyProof.RulesAs
import PyProof.MaxThree
import PyProof.Rows.SumAny
import PyProof.Rows.StrJoin2
import KE.KRevIter
import PyProof.AutoRange
import PyProof.FactsAll.range_2
import PyProof.Rows.FactsT2
import PyProof.Rows.SortShell
import PyProof.Rows.SortWalk
import PyProof.DictIter
import PyProof.DictWalks
import KE.KDictLaws
import KE.KDictOf
import PyProof.AttrMissSeq
import KE.KIntText
import PyProof.Rows.SetFrom
import PyProof.Rows.SortRuns
import PyProof.Rows.SortStr
import PySem.Challenge.RW_inningsbook_k40_batters
set_option bootstrap.genMatcherCode false
set_option compiler.extract_closed false
set_option genSizeOf false
set_option Elab.async false
set_option linter.all false
set_option maxRecDepth 100000
set_option maxHeartbeats 4000000
set_option genInjectivity false
open PySem renaming wpAny_bind->zaa,wpAny_pure->zac,wpAny_field->zax,wpAny_holding->zaH,wpAny_callSpecial?_slot->zaN,wpAny_newObj_type->zaO,wpAny_mono->zaQ,boot_len->zaZ,mem_of_lookup->zbb,wpAny_truthy_bool->zbc,wpAny_call_entry->zbj,wpAny_seqItems->zbm,wpAny_setField_rec->zbI,wpAny_loadPart_at->zbN,wpAny_typeNameOfWhole_keyiter->zbQ,wpAny_setField->zbV,wpAny_standAt->zcg,wpAny_pyIter_list->zcj,plainObj_wpAny_Assign_Attribute->zcs,wpAny_Call_Name_kw->zcu,tupleKind_room_in1->zcw,wpAny_isSubtype_exc->zcJ,wpAny_execs_nil->zcK,wpAny_passesOwn->zcL,codeAny_mono->zcN,wpAny_rule->zcU,call_meets->zcV,wpAny_onRaise->zdb,wpAny_attempt->zdc,wpAny_call->zdh,wpAny_typeOf->zdj,wpAny_updateSeq_pair->zdn,wpAny_pyIter_tuple->zdv,wpAny_dictEntries->zdH,wpAny_execs_cons->zdL,wpAny_lookBehind->zdM,pastItsLine_dict->zdN,wpAny_isInstance->zdS,wpAny_specialOf->zdZ,wpAny_dictEpoch->zeb,sizeLine_eq->zee,wpAny_letGo->zej,wpAny_loadPart->zeo,wpAny_listPart->zep,isSubtype_stop->zeq
open PySem.Heap renaming get?_push_of_some->zab,lt_size->zal,get?_push_size->zao,get?_update_other->zaB,get?_update_self->zaW,size_push->zbU
open List renaming length_map->zad,getElem?_eq_some_iff->zae,getElem?_eq_getElem->zag,getElem?_append_left->zaj,length_append->zak,size_toArray->zam,mem_cons->zap,length_cons->zar,getElem?_map->zas,map_cons->zat,getElem?_append_right->zau,append_nil->zaw,getElem?_set_ne->zay,replicate_succ->zaz,all_cons->zaA,not_mem_nil->zaC,map_append->zaD,getElem?_cons_succ->zaF,length_take->zaG,getElem?_set_self->zaI,map_nil->zaJ,map_map->zaK,all_nil->zaL,mem_append_right->zaM,mem_cons_of_mem->zaP,mem_of_getElem?->zaR,mem_singleton->zaS,lookup_cons->zaV,getElem?_cons_zero->zaX,length_nil->zba,foldl_cons->zbf,take_of_length_le->zbl,length_singleton->zbo,take_length->zbt,mem_map->zbw,mem_flatMap->zbx,mem_append_left->zby,append_assoc->zbB,mem_append->zbC,nodup_cons->zbD,filter_cons->zbF,contains_cons->zbH,set_cons_succ->zbJ,getElem?_take_of_lt->zbK,any_cons->zbP,map_congr_left->zbR,filter_eq_self->zbS,any_eq_true->zbW,cons_append->zbX,mem_cons_self->zbZ,eq_nil_or_concat->zcc,set_append_right->zcf,flatten_cons->zck,nodup_append->zcl,set_set->zco,all_eq_true->zcp,replicate_zero->zcr,find?_cons->zcv,set_cons_zero->zcz,foldl_append->zcC,any_map->zcE,filterMap_cons->zcH,drop_eq_getElem_cons->zcM,zip_cons_cons->zcT,take_succ->zcX,getElem?_replicate->zcY,flatMap_cons->zcZ,set_comm->zda,length_drop->zdd,length_set->zdk,nil_append->zdm,getD_eq_getElem?_getD->zdD,getElem_mem->zdT,mem_filter->zdW,of_mem_zip->zdY,drop_eq_nil_of_le->zek,mem_range->zel,reverse_reverse->zey,mem_of_mem_take->zez,any_nil->zeQ
open Nat renaming le_refl->zaf,le_trans->zai,lt_of_lt_of_le->zan,ne_of_lt->zaq,lt_irrefl->zbd,lt_succ_self->zbi,le_add_right->zbr,le_succ->zbE,ne_of_gt->zca,zero_le->zcA,zero_add->zcP,lt_of_le_of_lt->zcS,lt_trans->zdO,le_of_lt->zeG,sub_self->zeR
open Bool renaming false_ne_true->zah,and_self->zaE,eq_iff_iff->zaU,and_eq_true_iff->zbk,false_eq_true->zbq,false_and->zbT,true_and->zci,and_eq_true->zcG,or_true->zcQ,or_eq_true->zea,or_false->zeB
open Option.some renaming inj->zav,injEq->zbO
open PyProof.Rows renaming boot_list->zaT,boot_int->zbp,boot_tuple->zbA,slot_tuple_getitem->zct,callWith_type1->zcF,assignInOrder_cons->zdu,boot_str->zet
open PySem.F renaming plainAttrs_list->zaY,slot_list_append->zbu,type_list_append->zbv,slot_dict_keyiterator_next->zbz,slot_tuple_iterator_next->zch,slot_zip_next->zcx,slot_list_getattribute->zcR,slot_dict_get->zdf,args_dict_keyiterator_next_1->zdo,entry_dict_keyiterator_next->zdp,args_tuple_iterator_next_1->zds,entry_tuple_iterator_next->zdz,args_zip_next_1->zdG,args_tuple_add_2->zdP,entry_zip_next->zdR,args_dict_get_3->zdU,entry_tuple_add->zdV,entry_dict_get->zeg,slot_tuple_add->zeh
open PySem.W renaming kia_one->zbe,looks_clsIn->zcI,callWith_K->zcO,methodCall_KW->zde,looks_findIn->zdg,plainGet_of->zdr,cellsFrom_some->zef,tail_of_in->zeO,set_plain->zeV,kitx_list->zeX,kitx_dict->zeY
open Ne renaming symm->zbg
open Int renaming eq_ofNat_of_zero_le->zbh,toNat_natCast->zbn,emod_lt_of_pos->zcb,natCast_add->zcd,natCast_one->zce,emod_nonneg->zcy,add_zero->zeP
open PySem.Obj renaming data_mapFields->zbs,isFreed_of_fields->zcD
open PySem.W.Looks renaming here->zbG
open Option renaming map_some->zbL,map_eq_some_iff->zbY,isSome_iff_exists->zcm,bind_some->zcn,isNone_none->zdx,isSome_map->zdF,isNone_iff_eq_none->zdK,getD_none->zdQ,isSome_some->zeJ
open PySem.PassesOwn renaming never->zbM
open PySem.Heap.SameBut renaming update->zcq
open PySem.Calls renaming callWith_builtin->zcB,evalArgs_plain->zdi,spliced_cons->zdw,Name_function_global->zdB
open Eq renaming symm->zcW
open PySem.SeqAt.EqAt renaming same->zdl,of_refs->zdA,int_str->zeE,str_int->zeF
open Array renaming length_toList->zdq,getElem?_eq_some_iff->zdC,getElem?_eq_getElem->zdJ
open Sum.inr renaming inj->zdt
open PySem.W.KFB renaming if_not->zdy
namespace L2
open PySem PySem.Spec PyProof.Rows
theorem _root_.jp{p q:Prop}(a:p)(b:q):p∧q:=⟨a,b⟩
noncomputable abbrev dh:=Sum Int Str
noncomputable def mP:dh->Value->Bool
 |.inl k,v=>Value.isInt k v
 |.inr x,v=>Value.isStrOf x v
noncomputable def ak9 (w:World):dh->Int
 |.inl k=>hashInt k
 |.inr x=>hashStr w x
theorem cZ:∀{k:dh} {v:Value},mP k v=true->(∃i t,k=Sum.inl i/\v=Value.int i t)\/(∃x t,k=Sum.inr x/\v=Value.str x t)
 |.inl i,v,h=>by
  obtain⟨t,e⟩:=Value.isInt_shape (k:=i) (v:=v) h
  exact .inl ⟨i,t,rfl,e⟩
 |.inr x,v,h=>by
  obtain⟨t,e⟩:=Value.isStrOf_shape (x:=x) (v:=v) h
  exact .inr ⟨x,t,rfl,e⟩
theorem IM (i:Int)(t:Tok):mP (.inl i) (.int i t)=true:=by simp[mP,Value.isInt]
theorem IP (x:Str)(t:Tok):mP (.inr x) (.str x t)=true:=by simp[mP,Value.isStrOf]
theorem Zk (a b:Int):decide ((Sum.inl a:dh)=Sum.inl b)=(a == b):=by
 by_cases e:a=b
 ·subst e;simp
 ·have h:¬ (Sum.inl a:dh)=Sum.inl b:=λq=>e (Sum.inl.inj q)
  rw[decide_eq_false h];exact (beq_eq_false_iff_ne.mpr e).symm
theorem Zl (a b:Str):decide ((Sum.inr a:dh)=Sum.inr b)=decide (a=b):=by
 by_cases e:a=b
 ·subst e;simp
 ·have h:¬ (Sum.inr a:dh)=Sum.inr b:=λq=>e (zdt q)
  rw[decide_eq_false h,decide_eq_false e]
theorem Zm (a:Int)(b:Str):decide ((Sum.inl a:dh)=Sum.inr b)=false:=decide_eq_false (λq=>nomatch q)
theorem Zn (a:Str)(b:Int):decide ((Sum.inr a:dh)=Sum.inl b)=false:=decide_eq_false (λq=>nomatch q)
noncomputable def bS (prog:Program)(w:World):PySem.KeyKind prog w dh where
 is:=mP
 hash:=ak9 w
 inj:=λv a b ha hb=>by
  rcases cZ ha with⟨i,t,rfl,rfl⟩|⟨x,t,rfl,rfl⟩
  ·rcases cZ hb with⟨j,u,rfl,e⟩|⟨y,u,rfl,e⟩
   ·injection e with e1 _;rw[e1]
   ·exact nomatch e
  ·rcases cZ hb with⟨j,u,rfl,e⟩|⟨y,u,rfl,e⟩
   ·exact nomatch e
   ·injection e with e1 _;rw[e1]
 byValue:=λk v h=>by
  rcases cZ h with⟨i,t,rfl,rfl⟩|⟨x,t,rfl,rfl⟩<;>rfl
 pyHash:=λhv h=>by
  rcases cZ hv with⟨i,t,rfl,rfl⟩|⟨x,t,rfl,rfl⟩
  ·exact wpAny_pyHash_int h
  ·exact wpAny_pyHash_str h
 eqBool:=λhu hv h=>by
  rcases cZ hu with⟨i,t,rfl,rfl⟩|⟨x,t,rfl,rfl⟩
  ·rcases cZ hv with⟨j,u,rfl,rfl⟩|⟨y,u,rfl,rfl⟩
   ·rw[Zk] at h;exact wpAny_eqBool_int h
   ·rw[Zm] at h;exact zeE i t y u _ _ _ _ h
  ·rcases cZ hv with⟨j,u,rfl,rfl⟩|⟨y,u,rfl,rfl⟩
   ·rw[Zn] at h;exact zeF x t j u _ _ _ _ h
   ·rw[Zl] at h;exact wpAny_eqBool_str h
 «strs»:= λk x t v h=>by
  rcases cZ h with⟨i,u,rfl,e⟩|⟨y,u,rfl,e⟩
  ·exact nomatch e
  ·injection e with e1 _
   subst e1;cases v<;>rfl
theorem Bb (prog:Program)(w:World)(i:Int)(t:Tok):(bS prog w).is (.inl i) (.int i t)=true:=IM i t
theorem Bc (prog:Program)(w:World)(x:Str)(t:Tok):(bS prog w).is (.inr x) (.str x t)=true:=IP x t
set_option genInjectivity true in
inductive V where
 |bz|bl (b:Bool)|int (i:Int)|str (x:Str)|K0 (b:Array UInt8)|Zo (b:UInt64)|ref (a:Addr)|ty (n:String)
 deriving DecidableEq
noncomputable def bG:V->Value->Prop
 |.bz,u=>u=Value.none
 |.bl b,u=>u=Value.bool b
 |.int i,u=>∃t,u=Value.int i t
 |.str x,u=>∃t,u=Value.str x t
 |.K0 b,u=>∃t,u=Value.bytes b t
 |.Zo b,u=>∃t,u=Value.float b t
 |.ref a,u=>u=Value.ref a
 |.ty n,u=>u=Value.type n
noncomputable abbrev bA:List V->List Value->Prop:=Paired bG
theorem bA.length (r:bA xs us):xs.length=us.length:=Paired.length r
theorem bA.get:∀{xs:List V} {us:List Value} {i:Nat} {x:V},bA xs us->xs[i]? = some x->∃u,us[i]? = some u/\bG x u
 |_,_,_,_,.nil,e=>by simp at e
 |_,_,0,_,.cons r _,e=>by simp at e;subst e;exact⟨_,rfl,r⟩
 |_,_,i+1,x,.cons _ t,e=>by
  obtain⟨u,h1,h2⟩:=bA.get (i:=i) (x:=x) t (by simpa using e)
  exact⟨u,by simpa using h1,h2⟩
theorem bA.set (r:bG x u):∀{xs:List V} {us:List Value} (i:Nat),bA xs us->bA (xs.set i x) (us.set i u)
 |_,_,_,.nil=>.nil
 |_,_,0,.cons _ t=>.cons r t
 |_,_,i+1,.cons q t=>.cons q (bA.set r i t)
theorem bA.jh:∀{xs ys:List V} {us ws:List Value},bA xs us->bA ys ws->bA (xs++ys) (us++ws)
 |_,_,_,_,.nil,s=>s
 |_,_,_,_,.cons r t,s=>.cons r (bA.jh t s)
theorem bA.take:∀{xs:List V} {us:List Value} (n:Nat),bA xs us->bA (xs.take n) (us.take n)
 |_,_,0,_=>.nil
 |_,_,_+1,.nil=>.nil
 |_,_,n+1,.cons r t=>.cons r (bA.take n t)
theorem bA.drop:∀{xs:List V} {us:List Value} (n:Nat),bA xs us->bA (xs.drop n) (us.drop n)
 |_,_,0,r=>r
 |_,_,_+1,.nil=>.nil
 |_,_,n+1,.cons _ t=>bA.drop n t
noncomputable def ji:Option V->Option Value->Prop
 |some v,some u=>bG v u
 |none,none=>True
 |_,_=>False
noncomputable def KV {κ:Type}:List (κ × V)->List (κ × Value)->Prop:=Paired λ(p:κ × V) (q:κ × Value)=>p.1=q.1/\bG p.2 q.2
noncomputable def kV:dh->V
 |.inl i=>.int i
 |.inr x=>.str x
inductive HO where
 /-- a list -/
 |aM (xs:List V)
 /-- a fj (never akd) -/
 |fP (xs:List V)
 /-- a dict afL qC are ints and afM;Q0 afL qC are tuples of ints and afM (xN empty Q0 is aqi) -/
 |dK (aK:List (dh×V))|dT (aK:List (List dh×V))
 /-- a set of ints:aI ake,aI size -/
 |set (S:Int->Bool) (n:Nat)
 /-- an instance of xN class at C,aI dict at dx,aI Zp -/
 |fH (C dx:Addr) (fs:List (Str×V))
 /-- xN dict of xN instance at x -/
 |tw (x:Addr)
 /-- xN dict of an afg -/
 |xd (fs:List (Str×V))
 /-- a aoy ala,f of x -/
 |met (f x:Addr)
 /-- a range Le lo,lo+1,.. aoz hi -/
 |rng (lo hi:Int)
 /-- a afN aqj is aoA to xN Le (xN Lg;a dict while a Q2 aoB it):aqk,never akf while it is so -/
 |qw (o:Obj) (u:HO)
 /-- a aql afO table -/
 |Zq (ps:Array Value)
 /-- any Gr afN,by ald is true of aI Q0 Le (a def of aoC tw:aqm a S n:=HO.ext fun h=>..) -/
 |ext (φ:Heap->Prop)
noncomputable abbrev Hp:=Addr->Option HO
noncomputable def bu (H:Hp)(a:Addr)(o:HO):Hp:=λb=>if b=a then some o else H b
theorem au:bu H a o a=some o:=by unfold bu;rw[if_pos rfl]
theorem av (h:b≠a):bu H a o b=H b:=by unfold bu;rw[if_neg h]
theorem Gs:bu (bu H a o) a u=bu H a u:=by
 funext b;unfold bu;split<;>rfl
theorem afP {H:Hp}{a b:Addr}{o u:HO}(h:H a=some o)(h':H b=some u)(d:o≠u):a≠b:=by
 intro e;subst e;rw[h] at h';exact d (zav h')
theorem fK {H:Hp}{a b:Addr}{o:HO}(h:H a=some o)(h':H b=none):a≠b:=by
 intro e;subst e;rw[h] at h';cases h'
section
variable (P:Program)(w:World)
noncomputable def bZ (H:Hp)(h:Heap)(a:Addr):HO->Prop
 |.aM xs=>xs.length<=sizeLine/\∃(aI:List Value) (n:Nat),bA xs aI/\h.get? a=some { cls:=.type "list",data:=.seq aI.toArray n}
 |.fP xs=>xs.length<=sizeLine/\∃aI:List Value,bA xs aI/\IsTup h a aI.toArray
 |.dK aK=>aK.length<=sizeLine/\(a == sysModules)=false/\∃vs,KV aK vs/\h.DictOf (bS P w) a vs
 |.dT aK=>aK.length<=sizeLine/\(a == sysModules)=false/\∃xs:List (List dh×Addr×Value),
   Paired (λ(p:List dh×V) (q:List dh×Addr×Value)=>p.1=q.1/\H q.2.1=some (.fP (p.1.map kV))/\bG p.2 q.2.2) aK xs /\
   ∃o es ep,h.get? a=some o/\o.ExactDict/\o.data = .dict es ep/\es.toList=xs.map (entryOfKey (tupleKind (bS P w)))/\(xs.map (·.1)).Nodup
 |.set S n=>h.SetOf (intKind P w) a S n
 |.fH C dx fs=>H dx=some (.tw a)/\fs.length<=1000/\dx≠a/\h.get? a=some (PySem.W.instObj C dx) /\
   ∃mA,h.Ns1 dx mA/\(∀f,ji (fs.lookup f) (mA f))/\PySem.Within mA (fs.map (·.1))
 |.tw _=>∃o,h.get? a=some o
 |.xd fs=>∃mA,h.Ns1 a mA/\∀f,ji (fs.lookup f) (mA f)
 |.rng lo hi=>∃t u v,h.get? a=some { cls:=.type "range",data:=.fields #[.int lo t,.int hi u,.int 1 v]}
 |.qw o u=>h.get? a=some o/\bZ H h a u
 |.Zq ps=>h.get? a=some {cls:=.none,data:=.fields ps}
 |.met f x=>h.get? a=some (PySem.W.methodObj (.ref f) (.ref x))
 |.ext φ=>φ h/\(∃o,h.get? a=some o)/\∀h1 h2:Heap,φ h1->(∀o,h1.get? a=some o->h2.get? a=some o) -> φ h2
noncomputable def oh (H:Hp)(h:Heap):Prop:=∀a o,H a=some o->bZ P w H h a o
end
theorem bZ.lt (x:bZ P w H h a o):a<h.objs.size:=by
 cases o with
 |aM xs=>obtain⟨_,_,_,_,e⟩:=x;exact zal e
 |fP xs=>obtain⟨_,_,_,p⟩:=x;exact p.lt
 |dK aK=>obtain⟨_,_,_,_,o,_,_,e,_⟩:=x;exact zal e
 |dT aK=>obtain⟨_,_,_,_,o,_,_,e,_⟩:=x;exact zal e
 |set S n=>obtain⟨o,_,_,_,e,_⟩:=x;exact zal e
 |fH C dx fs=>obtain⟨_,_,_,e,_⟩:=x;exact zal e
 |tw y=>obtain⟨_,e⟩:=x;exact zal e
 |xd fs=>obtain⟨_,⟨_,_,_,e,_⟩,_⟩:=x;exact zal e
 |rng lo hi=>obtain⟨_,_,_,e⟩:=x;exact zal e
 |qw ob u=>obtain⟨e,_⟩:=x;exact zal e
 |Zq ps=>exact zal (show h.get? a=some _ from x)
 |met f y=>exact zal (show h.get? a=some _ from x)
 |ext φ=>obtain⟨_,⟨_,e⟩,_⟩:=x;exact zal e
theorem Paired.Zr {α β:Type}{F G:α -> β -> Prop}:∀{afQ:List α} {afR:List β},Paired F afQ afR->(∀a b,F a b->G a b)->Paired G afQ afR
 |_,_,.nil,_=>.nil
 |_,_,.cons r t,f=>.cons (f _ _ r) (Paired.Zr t f)
theorem bZ.sj (x:bZ P w H h a o)(k:∀b u,(b=a\/H b=some (.tw a))->h.get? b=some u->h'.get? b=some u)
  (ho:∀b,H b=some (.tw a)->H' b=some (.tw a)) (ht:∀b xs,H b=some (.fP xs)->H' b=some (.fP xs)):bZ P w H' h' a o:=by
 induction o with
 |aM xs=>obtain⟨z,aI,n,r,e⟩:=x;exact⟨z,aI,n,r,k _ _ (.inl rfl) e⟩
 |fP xs=>obtain⟨z,aI,r,ob,e,c⟩:=x;exact⟨z,aI,r,ob,k _ _ (.inl rfl) e,c⟩
 |dK aK=>obtain⟨z,y,vs,r,ob,es,ep,e,c⟩:=x;exact⟨z,y,vs,r,ob,es,ep,k _ _ (.inl rfl) e,c⟩
 |dT aK =>
  obtain⟨z,y,xs,r,ob,es,ep,e,c⟩:=x;exact⟨z,y,xs,Paired.Zr r λp q z=>⟨z.1,ht _ _ z.2.1,z.2.2⟩,ob,es,ep,k _ _ (.inl rfl) e,c⟩
 |set S n=>obtain⟨ob,es,ep,t,e,c⟩:=x;exact⟨ob,es,ep,t,k _ _ (.inl rfl) e,c⟩
 |fH C dx fs =>
  obtain⟨d,z,ne,e,mA,⟨od,es,ep,e2,c⟩,r⟩:=x
  exact⟨ho _ d,z,ne,k _ _ (.inl rfl) e,mA,⟨od,es,ep,k _ _ (.inr d) e2,c⟩,r⟩
 |tw y=>obtain⟨ob,e⟩:=x;exact⟨ob,k _ _ (.inl rfl) e⟩
 |xd fs=>obtain⟨mA,⟨od,es,ep,e,c⟩,r⟩:=x;exact⟨mA,⟨od,es,ep,k _ _ (.inl rfl) e,c⟩,r⟩
 |rng lo hi=>obtain⟨t,u,v,e⟩:=x;exact⟨t,u,v,k _ _ (.inl rfl) e⟩
 |qw ob u ih=>obtain⟨e,q⟩:=x;exact⟨k _ _ (.inl rfl) e,ih q⟩
 |Zq ps =>
  have e:h.get? a=some {cls:=.none,data:=.fields ps}:=x
  show h'.get? a=some {cls:=.none,data:=.fields ps}
  exact k a _ (.inl rfl) e
 |met f y =>
  have e:h.get? a=some (PySem.W.methodObj (.ref f) (.ref y)):=x
  show h'.get? a=some (PySem.W.methodObj (.ref f) (.ref y))
  exact k a _ (.inl rfl) e
 |ext φ=>obtain⟨p,⟨o,e⟩,st⟩:=x;exact⟨st _ _ p λo q=>k _ _ (.inl rfl) q,⟨o,k _ _ (.inl rfl) e⟩,st⟩
theorem oh.lt (x:oh P w H h)(e:H a=some o):a<h.objs.size:=(x a o e).lt
theorem oh.fresh (x:oh P w H h)(e:h.objs.size<=a):H a=none:=by
 cases q:H a with
 |none=>rfl
 |some u=>exact absurd (zan (x.lt q) e) (zbd _)
theorem oh.gA (x:oh P w H h)(k:∀b u,h.get? b=some u->h'.get? b=some u):oh P w H h':=λa o e =>
 (x a o e).sj (λb u _ q=>k b u q) (λ_ q=>q) λ_ _ q=>q
theorem oh.jA (x:oh P w H h)(k:∀b u,h.get? b=some u->h'.get? b=some u)(hp:h.objs.size<=a)(new:bZ P w (bu H a o) h' a o):oh P w (bu H a o) h':=λb u e=>by
 have hn:=x.fresh hp;by_cases hb:b=a
 ·subst hb;rw[au] at e;cases e;exact new
 ·rw[av hb] at e
  exact (x b u e).sj (λc v _ q=>k c v q) (λc q=>by rw[av (fK q hn)];exact q) λc xs q=>by rw[av (fK q hn)];exact q
noncomputable def Rd (H:Hp)(a:Addr)(u:HO):Prop:=H a=some u\/∃o,H a=some (.qw o u)
theorem Rd.ok (r:Rd H a u)(x:oh P w H h):bZ P w H h a u:=by
 rcases r with r|⟨o,r⟩
 ·exact x a u r
 ·obtain⟨_,q⟩:=x a _ r
  exact q
noncomputable def Mut:Option HO->Prop
 |some (.aM _)=>True
 |some (.dK _)=>True
 |some (.dT _)=>True
 |some (.set _ _)=>True
 |some (.fH _ _ _)=>True
 |some (.ext _)=>True
 |_=>False
theorem oh.jH (ok:oh P w H h)(mu:Mut (H x))(he:e=x\/H e=some (.tw x))(k:∀b u,b≠e->h.get? b=some u->h'.get? b=some u)(heo:∃u,h'.get? e=some u)
  (new:bZ P w (bu H x o') h' x o'):oh P w (bu H x o') h':=λb u q=>by
 have afS:∀c y,H c=some (.tw y)->c≠x:=λc y r z=>by subst z;rw[r] at mu;exact mu
 have ale:∀c xs,H c=some (.fP xs)->c≠x:=λc xs r z=>by subst z;rw[r] at mu;exact mu
 by_cases hb:b=x
 ·subst hb;rw[au] at q;cases q;exact new
 ·rw[av hb] at q
  by_cases Zs:b=e
  ·have q':H b=some (.tw x):=by
    rcases he with z|z
    ·exact absurd (Zs.trans z) hb
    ·rw[Zs];exact z
   rw[q] at q';cases q'
   obtain⟨v,hv⟩:=heo;exact⟨v,by rw[Zs];exact hv⟩
  ·refine (ok b u q).sj (λc v hc r=>k c v ?_ r) (λc r=>by rw[av (afS c b r)];exact r) λc xs r=>by rw[av (ale c xs r)];exact r
   rcases hc with rfl|hc
   ·exact Zs
   ·rintro rfl
    rcases he with z|z
    ·exact afS c b hc z
    ·rw[hc] at z;cases z;exact hb rfl
structure Un (fs ex:List Addr) (H H':Hp) (h h':Heap):Prop where
 keep:∀b o,h.get? b=some o->H b=none->b∉fs->b∉ex->h'.get? b=some o
 slot:∀b o,h.get? b=some o->H b=none->b∈fs->b∉ex->∃sl,h'.get? b=some {o with slots:=sl}
 free:∀b o,h.get? b=some o->H b=none->b∉ex->H' b=none
 there:∀b o,h.get? b=some o->b∉ex->∃o',h'.get? b=some o'
 wV:∀b xs,H b=some (.fP xs)->H' b=some (.fP xs)
 tD:∀b o u,H b=some (.qw o u)->H' b=some (.qw o u)
 wW:∀b ps,H b=some (.Zq ps)->∃jS,H' b=some (.Zq (ps++jS))
theorem Un.any (u:Un fs ex H H1 h h1)(q:h.get? b=some ob)(n:H b=none)(hx:b∉ex):∃sl,h1.get? b=some {ob with slots:=sl}:=by
 by_cases hb:b∈fs
 ·exact u.slot b ob q n hb hx
 ·exact⟨ob.slots,u.keep b ob q n hb hx⟩
theorem Un.gA (k:∀b u,h.get? b=some u->h'.get? b=some u):Un fs ex H H h h':=
 ⟨λb ob q _ _ _=>k b ob q,λb ob q _ _ _=>⟨ob.slots,k b ob q⟩,λ_ _ _ n _=>n,λb ob q _=>⟨ob,k b ob q⟩,λ_ _ q=>q,λ_ _ _ q=>q,λ_ ps q=>⟨#[],by rw[q];simp⟩⟩
theorem Un.refl:Un fs ex H H h h:=Un.gA λ_ _ q=>q
theorem Un.jA (k:∀b u,h.get? b=some u->h'.get? b=some u)(hp:h.objs.size<=a)(hn:H a=none):Un fs ex H (bu H a o) h h' where
 keep:=λb u q _ _ _=>k b u q
 slot:=λb u q _ _ _=>⟨u.slots,k b u q⟩
 free:=λb u q n _=>by rw[av (zaq (zan (zal q) hp))];exact n
 there:=λb u q _=>⟨u,k b u q⟩
 wV:=λb xs q=>by rw[av (fK q hn)];exact q
 tD:=λb u xs q=>by rw[av (fK q hn)];exact q
 wW:=λb ps q=>⟨#[],by rw[av (fK q hn),q];simp⟩
theorem Un.jH (mu:Mut (H x))(he:e=x\/H e=some (.tw x))(k:∀b u,b≠e->h.get? b=some u->h'.get? b=some u)(heo:∃u,h'.get? e=some u):Un fs ex H (bu H x o) h h':=by
 have hx:∀b,H b=none->b≠x:=λb n z=>by subst z;rw[n] at mu;exact mu
 have hb:∀b,H b=none->b≠e:=λb n z=>by
  subst z;rcases he with r|r
  ·exact hx b n r
  ·rw[n] at r;cases r
 have hm:∀b u,H b=some u->¬ Mut (some u)->b≠x:=λb u q nm z=>by subst z;rw[q] at mu;exact nm mu
 refine⟨λb u q n _ _=>k b u (hb b n) q,λb u q n _ _=>⟨u.slots,k b u (hb b n) q⟩,λb u q n _=>by rw[av (hx b n)];exact n,λb u q _=>?_,
  λb xs q=>by rw[av (hm b _ q λz=>z)];exact q,λb u xs q=>by rw[av (hm b _ q λz=>z)];exact q,λb ps q=>⟨#[],by rw[av (hm b _ q λz=>z),q];simp⟩⟩
 by_cases Zs:b=e
 ·subst Zs;exact heo
 ·exact⟨u,k b u Zs q⟩
noncomputable def trk (h:Heap)(H:Hp):List Addr:=(List.range h.objs.size).filter λa=>(H a).isSome
noncomputable def zz (h:Heap)(H:Hp):Heap:=PySem.W.hideAll h (trk h H)
theorem IQ (h:Heap)(H:Hp):(zz h H).objs.size=h.objs.size:=PySem.W.hideAll_size _ _
theorem Lh (e:h.get? b=some o)(n:H b=none):(zz h H).get? b=some o:=
 PySem.W.hideAll_get _ e λhm=>by
  have q:(H b).isSome=true:=(zdW.mp hm).2
  rw[n] at q;simp at q
theorem Q3 (e:(zz h H).get? b=some o):h.get? b=some o/\H b=none:=by
 have e':h.get? b=some o:=PySem.W.of_hideAll (trk h H) e
 refine⟨e',?_⟩
 cases q:H b with
 |none=>rfl
 |some x =>
  have hm:b∈trk h H:=zdW.mpr ⟨zel.mpr (zal e'),by simp[q]⟩
  have z:(zz h H).get? b=none:=PySem.W.hideAll_none (trk h H) hm
  rw[z] at e;cases e
structure Mod (K:PySem.W.Frag) (mg:Str->Option Value) (base:Heap):Prop where
 Zt:K.In base
 tE:base.Ns mainGlobals mg
 VB:∃mb,base.Ns builtinsNs mb/\∀x:Str,x ≠ "__name__" -> mb x=bootBuiltins x
 nolimit:base.NoLimit
structure Cx where
 prog:Program
 w:World
 K:PySem.W.Frag
 mg:Str->Option Value
 base:Heap
 A:Around
 N:List Str
 s₀:Shared
 H₀:Hp
 env:Env
 outer:List Env
 di:List Env
 ex:List Addr
 fn:Str->Bool
 fL:Bool
 pn:List (Addr×Obj)
 xe:Value->Shared->Prop
noncomputable def sN (l:List Env):List Addr:=l.filterMap (·.frame)
noncomputable abbrev Cx.fs (X:Cx):List Addr:=sN X.outer
noncomputable def Vis (sc:Scope)(x:Str):Prop:=sc.names.lookup x=some .local\/sc.names.lookup x=some .cell\/sc.names.lookup x=some .free
noncomputable def VC (sc:Scope)(x:Str):Prop:=sc.names.lookup x=some .local\/sc.names.lookup x=some .cell
noncomputable def alf (env:Env)(h:Heap)(m:Str->Option Value)(x:Str)(u:Value):Prop:=
 (env.kindOf x=some .local/\m x=some u)\/((env.kindOf x=some .cell\/env.kindOf x=some .free)/\∃c,env.cells.lookup x=some c/\h.IsCell c (some u))
structure Cx.Ok (X:Cx):Prop where
 tF:Mod X.K X.mg X.base
 kind:X.env.scope.kind = .function
 tE:X.env.globals=mainGlobals
 VB:X.env.builtins=builtinsNs
 above:X.s₀.heap.objs.size<=X.env.locals
 inj:∀x y c,X.env.cells.lookup x=some c->X.env.cells.lookup y=some c->x=y
 has:∀x,(X.env.kindOf x=some .cell\/X.env.kindOf x=some .free)->∃c,X.env.cells.lookup x=some c
 Zu:∀x c,X.fn x=true->X.env.cells.lookup x=some c->X.s₀.heap.objs.size<=c
 hd:X.fL=true->X.A.handled=none
 frames:X.A.frames=some X.di
 stk:X.di=X.outer\/(X.di=X.env::X.outer/\X.env.frame=some X.env.locals)
 exf:∀b∈X.ex,b≠X.env.locals/\∀x c,X.env.cells.lookup x=some c->c≠b
 bs:∀b o,X.base.get? b=some o->X.s₀.heap.get? b=some o/\X.H₀ b=none
 QO:X.base.objs.size<=X.s₀.heap.objs.size
 jB:∀b o,X.base.get? b=some o->b∉X.ex
 Eb:∀b∈X.ex,b∉X.fs
 mj:X.s₀.heap.FunFrames X.base X.outer
 Li:∀b∈X.fs,X.H₀ b=none
structure aJ (X:Cx) (ah:List (Addr×Obj)) (σ:List (Option V)) (H:Hp) (s:Shared):Prop where
 ok:X.Ok
 os:s.os=X.s₀.os
 i6:AllBare s.gens
 base:Un X.fs X.ex X.H₀ H X.s₀.heap s.heap
 Bd:∃m,s.heap.Ns X.env.locals m/\∀(i:Nat) (x:Str) (v:V),X.N[i]? = some x -> σ[i]? = some (some v)->Vis X.env.scope x->∃u,bG v u/\alf X.env s.heap m x u
 cell:∀x c,X.env.cells.lookup x=some c->∃v,s.heap.IsCell c v
 free:H X.env.locals=none
 lU:∀x c,X.env.cells.lookup x=some c->H c=none
 DM:∀p∈X.pn++ah,s.heap.get? p.1=some p.2/\H p.1=none/\p.1≠X.env.locals/\p.1∉X.fs/\∀v,p.2.data ≠ .cell v
 cA:oh X.prog X.w H s.heap
 len:σ.length=X.N.length
section
variable {X:Cx}{ah:List (Addr×Obj)}{σ:List (Option V)}{H H':Hp}{s:Shared}{h':Heap}
theorem Cx.Ok.alg (ok:X.Ok)(e:X.base.get? b=some o):b∉X.fs:=λhb=>by
 have:=(ok.mj.mem hb).1
 rw[e] at this;cases this
theorem aJ.bs (I:aJ X ah σ H s):∀b o,X.base.get? b=some o->s.heap.get? b=some o/\H b=none:=λb o e =>
 ⟨I.base.keep b o (I.ok.bs b o e).1 (I.ok.bs b o e).2 (I.ok.alg e) (I.ok.jB b o e),I.base.free b o (I.ok.bs b o e).1 (I.ok.bs b o e).2 (I.ok.jB b o e)⟩
theorem aJ.bk (I:aJ X ah σ H s):∀b o,X.base.get? b=some o->s.heap.get? b=some o:=λb o e=>(I.bs b o e).1
theorem aJ.tF (I:aJ X ah σ H s):Mod X.K X.mg X.base:=I.ok.tF
theorem aJ.kO (I:aJ X ah σ H s):X.K.In s.heap:=I.ok.tF.Zt.keeps I.bk
theorem aJ.lt (I:aJ X ah σ H s):X.env.locals<s.heap.objs.size:=let ⟨_,hn,_⟩:=I.Bd;hn.lt
theorem aJ.sz (I:aJ X ah σ H s):X.s₀.heap.objs.size<=s.heap.objs.size:=zai I.ok.above (zeG I.lt)
theorem aJ.alh (I:aJ X ah σ H s)(h:s.heap.objs.size<=a):a∉X.fs:=λhb=>by
 obtain⟨_,o,ho,_⟩:=I.ok.mj.mem hb;exact absurd (zan (zal ho) (zai I.sz h)) (zbd _)
theorem aJ.Zv (I:aJ X ah σ H s):∀x c,X.env.cells.lookup x=some c->c≠X.env.locals:=λx c e z=>by
 obtain⟨v,o,ho,hd⟩:=I.cell x c e;obtain⟨m,⟨o',es,ep,wO,VD,_⟩,_⟩:=I.Bd
 rw[z,wO] at ho;cases ho;rw[VD] at hd;cases hd
theorem aJ.mj (I:aJ X ah σ H s):s.heap.FunFrames X.base X.outer:=by
 have all:∀(l:List Env),(∀b∈sN l,b∈X.fs)->X.s₀.heap.FunFrames X.base l->s.heap.FunFrames X.base l:=by
  intro l;induction l with
  |nil=>intro _ _;trivial
  |cons env r ih =>
   intro hs hl;obtain⟨hk,⟨L,o,hf,hn,ho,hd⟩,hr⟩:=hl
   have hL:L∈X.fs:=hs L (by unfold sN;rw[zcH,hf];exact zbZ)
   obtain⟨sl,e⟩:=I.base.slot L o ho (I.ok.Li L hL) hL λz=>I.ok.Eb L z hL
   exact⟨hk,⟨L,_,hf,hn,e,hd⟩,ih (λb hb=>hs b (by unfold sN;rw[zcH,hf];exact zaP _ hb)) hr⟩
 exact all X.outer (λ_ hb=>hb) I.ok.mj
theorem aJ.di (I:aJ X ah σ H s):s.heap.FunFrames X.base X.di:=by
 rcases I.ok.stk with e|⟨e,hf⟩
 ·rw[e];exact I.mj
 ·rw[e]
  obtain⟨m,hn,_⟩:=I.Bd;refine .cons (by rw[I.ok.kind];decide) hf hn ?_ I.mj
  exact Heap.get?_none_of_le (zai I.ok.QO I.ok.above)
theorem aJ.Ec (I:aJ X ah σ H s):∀b∈sN X.di,b∈X.env.locals::X.fs:=λb hb=>by
 rcases I.ok.stk with e|⟨e,hf⟩
 ·rw[e] at hb;exact zaP _ hb
 ·rw[e] at hb
  unfold sN at hb;rw[zcH,hf] at hb;exact hb
theorem aJ.Gu (I:aJ X ah σ H s):∀b∈sN X.di,H b=none:=λb hb=>by
 rcases zap.mp (I.Ec b hb) with e|hb
 ·rw[e];exact I.free
 ·obtain⟨_,o,ho,_⟩:=I.ok.mj.mem hb
  exact I.base.free b o ho (I.ok.Li b hb) λz=>I.ok.Eb b z hb
theorem aJ.sr {g':Array GenState}{t':Nat}{d':Drawn}{ch:List Addr}(I:aJ X ah σ H s)
  (QS:∀b∈ch,(b∈X.ex\/X.s₀.heap.objs.size<=b)/\b≠X.env.locals/\(∀x c,X.env.cells.lookup x=some c->c≠b)/\∀p∈X.pn++ah,p.1≠b)
  (keep:∀b o,b≠X.env.locals->b∉X.fs->b∉ch->s.heap.get? b=some o->H b=none->h'.get? b=some o)
  (slot:∀b o,b≠X.env.locals->b∈X.fs->b∉ch->s.heap.get? b=some o->H b=none->∃sl,h'.get? b=some {o with slots:=sl}) (free:∀b o,b∉ch->s.heap.get? b=some o->H b=none->H' b=none)
  (there:∀b o,b∉ch->s.heap.get? b=some o->∃o',h'.get? b=some o')
  (wV:∀b xs,H b=some (.fP xs)->H' b=some (.fP xs)) (tD:∀b o u,H b=some (.qw o u)->H' b=some (.qw o u)) (wW:∀b ps,H b=some (.Zq ps)->∃jS,H' b=some (.Zq (ps++jS)))
  (ns:∀m,s.heap.Ns X.env.locals m->h'.Ns X.env.locals m) (cA:oh X.prog X.w H' h') (hg:AllBare g'):
  aJ X ah σ H' {s with heap:=h',gens:=g',drawn:=d',toks:=t' }:=by
 have neL:∀b o,X.s₀.heap.get? b=some o->b≠X.env.locals:=λb o e=>zaq (zan (zal e) I.ok.above)
 have neC:∀b o,X.s₀.heap.get? b=some o->b∉X.ex->b∉ch:=λb o e hx hb=>by
  rcases (QS b hb).1 with z|z
  ·exact hx z
  ·exact absurd (zan (zal e) z) (zbd _)
 have VE:∀x c,X.env.cells.lookup x=some c->∀v,s.heap.IsCell c v->h'.IsCell c v:=λx c e v ⟨o,ho,hd⟩=>by
  have nch:c∉ch:=λz=>(QS c z).2.2.1 x c e rfl
  by_cases hc:c∈X.fs
  ·obtain⟨sl,q⟩:=slot c o (I.Zv x c e) hc nch ho (I.lU x c e)
   exact⟨_,q,hd⟩
  ·exact⟨o,keep c o (I.Zv x c e) hc nch ho (I.lU x c e),hd⟩
 refine⟨I.ok,I.os,hg,⟨λb o e n hb hx=>?_,λb o e n hb hx=>?_,λb o e n hx=>?_,λb o e hx=>?_,λb xs e=>wV b xs (I.base.wV b xs e),λb o xs e=>tD b o xs (I.base.tD b o xs e),λb ps e=>?_⟩,?_,λx c e=>?_,?_,λx c e=>?_,λp hp=>?_,cA,I.len⟩
 ·exact keep b o (neL b o e) hb (neC b o e hx) (I.base.keep b o e n hb hx) (I.base.free b o e n hx)
 ·obtain⟨sl,e1⟩:=I.base.slot b o e n hb hx
  obtain⟨sl',e2⟩:=slot b _ (neL b o e) hb (neC b o e hx) e1 (I.base.free b o e n hx)
  exact⟨sl',e2⟩
 ·obtain⟨o',e1⟩:=I.base.there b o e hx
  exact free b o' (neC b o e hx) e1 (I.base.free b o e n hx)
 ·obtain⟨o',e1⟩:=I.base.there b o e hx
  exact there b o' (neC b o e hx) e1
 ·obtain⟨m1,e1⟩:=I.base.wW b ps e
  obtain⟨m2,e2⟩:=wW b _ e1;exact⟨m1++m2,by rw[e2,Array.append_assoc]⟩
 ·obtain⟨m,hn,hl⟩:=I.Bd
  refine⟨m,ns m hn,λi x v e1 e2 e3=>?_⟩
  obtain⟨u,r,l⟩:=hl i x v e1 e2 e3;refine⟨u,r,?_⟩
  rcases l with l|⟨k,c,e,z⟩
  ·exact .inl l
  ·exact .inr ⟨k,c,e,VE x c e _ z⟩
 ·obtain⟨v,z⟩:=I.cell x c e
  exact⟨v,VE x c e v z⟩
 ·obtain⟨m,⟨o,_,_,ho,_⟩,_⟩:=I.Bd
  exact free _ o (λz=>(QS _ z).2.1 rfl) ho I.free
 ·obtain⟨v,o,ho,hd⟩:=I.cell x c e
  exact free c o (λz=>(QS c z).2.2.1 x c e rfl) ho (I.lU x c e)
 ·obtain⟨e,n,ne,nf,d⟩:=I.DM p hp
  have nch:p.1∉ch:=λz=>(QS p.1 z).2.2.2 p hp rfl
  exact⟨keep p.1 p.2 ne nf nch e n,free p.1 p.2 nch e n,ne,nf,d⟩
theorem aJ.un {t':Nat}(I:aJ X ah σ H s)(u:Un X.fs [] H H' s.heap h')(cA:oh X.prog X.w H' h'):aJ X ah σ H' {s with heap:=h',toks:=t' }:=by
 obtain⟨m,⟨o,es,ep,ho,r⟩,_⟩:=id I.Bd
 obtain⟨sl,hL⟩:=u.any ho I.free (by simp)
 exact I.sr (g':=s.gens) (d':=s.drawn) (ch:=[]) (λ_ z=>nomatch z) (λb o _ hb _ e n=>u.keep b o e n hb (by simp)) (λb o _ hb _ e n=>u.slot b o e n hb (by simp)) (λb o _ e n=>u.free b o e n (by simp)) (λb o _ e=>u.there b o e (by simp)) u.wV u.tD u.wW (λm' hm=>by
  obtain⟨o',es',ep',wO,r'⟩:=hm;rw[ho] at wO;cases wO
  exact⟨_,es',ep',hL,r'⟩) cA I.i6
theorem aJ.call {g':Array GenState}{t':Nat}{d':Drawn}{ch:List Addr}(I:aJ X ah σ H s)(u:Un (sN X.di) ch H H' s.heap h')(cA:oh X.prog X.w H' h')(hg:AllBare g')
  (QS:∀b∈ch,(b∈X.ex\/X.s₀.heap.objs.size<=b)/\b≠X.env.locals/\(∀x c,X.env.cells.lookup x=some c->c≠b)/\∀p∈X.pn++ah,p.1≠b):
  aJ X ah σ H' {s with heap:=h',gens:=g',drawn:=d',toks:=t' }:=by
 obtain⟨m,⟨o,es,ep,ho,r⟩,_⟩:=id I.Bd
 obtain⟨sl,hL⟩:=u.any ho I.free λz=>(QS _ z).2.1 rfl
 exact I.sr (ch:=ch) QS (λb o hL hb hc e n=>u.keep b o e n (λz=>(zap.mp (I.Ec b z)).elim hL hb) hc) (λb o _ _ hc e n=>u.any e n hc) (λb o hc e n=>u.free b o e n hc) (λb o hc e=>u.there b o e hc) u.wV u.tD u.wW (λm' hm=>by
  obtain⟨o',es',ep',wO,r'⟩:=hm;rw[ho] at wO;cases wO
  exact⟨_,es',ep',hL,r'⟩) cA hg
theorem aJ.kR {t':Nat}{it:Addr}(I:aJ X ah σ H s)(k:∀b o,b≠it->s.heap.get? b=some o->h'.get? b=some o)(hn:H it=none)(hL:it≠X.env.locals)
  (h1:it∈X.ex\/X.s₀.heap.objs.size<=it) (h2:∀x c,X.env.cells.lookup x=some c->c≠it) (h3:∀p∈X.pn++ah,p.1≠it):aJ X ah σ H {s with heap:=h',toks:=t' }:=by
 have nit:∀b u,H b=some u->b≠it:=λb u e z=>by rw[z,hn] at e;cases e
 refine I.sr (g':=s.gens) (d':=s.drawn) (ch:=[it]) (λb hb=>?_) (λb o _ _ hc e _=>k b o (λz=>hc (by simp[z])) e) (λb o _ _ hc e _=>⟨o.slots,k b o (λz=>hc (by simp[z])) e⟩) (λ_ _ _ _ n=>n)
  (λb o hc e=>⟨o,k b o (λz=>hc (by simp[z])) e⟩) (λ_ _ e=>e) (λ_ _ _ e=>e) (λb ps e=>⟨#[],by rw[e];simp⟩) (λm hm=>?_) (λb u e=>?_) I.i6
 ·have e:b=it:=by simpa using hb
  subst e;exact⟨h1,hL,h2,h3⟩
 ·obtain⟨o,es,ep,ho,r⟩:=hm
  exact⟨o,es,ep,k _ o (zbg hL) ho,r⟩
 ·refine (I.cA b u e).sj (λc v hc q=>k c v ?_ q) (λ_ q=>q) λ_ _ q=>q
  rcases hc with z|z
  ·rw[z];exact nit b u e
  ·exact nit c _ z
theorem aJ.o8 (I:aJ X ah σ H s)(t:Nat):aJ X ah σ H {s with toks:=t}:=I.un (h':=s.heap) (t':=t) Un.refl I.cA
theorem aJ.gA (I:aJ X ah σ H s)(k:∀b u,s.heap.get? b=some u->h'.get? b=some u):aJ X ah σ H {s with heap:=h',toks:=t' }:=I.un (Un.gA k) (I.cA.gA k)
theorem aJ.jA (I:aJ X ah σ H s)(k:∀b u,s.heap.get? b=some u->h'.get? b=some u)(hp:s.heap.objs.size<=a)(new:bZ X.prog X.w (bu H a o) h' a o):
  aJ X ah σ (bu H a o) {s with heap:=h',toks:=t' }:=I.un (Un.jA k hp (I.cA.fresh hp)) (I.cA.jA k hp new)
theorem aJ.jH (I:aJ X ah σ H s)(mu:Mut (H x))(he:e=x\/H e=some (.tw x))(k:∀b u,b≠e->s.heap.get? b=some u->h'.get? b=some u)(heo:∃u,h'.get? e=some u)
  (new:bZ X.prog X.w (bu H x o) h' x o):aJ X ah σ (bu H x o) {s with heap:=h',toks:=t' }:=I.un (Un.jH mu he k heo) (I.cA.jH mu he k heo new)
theorem aJ.Gv (I:aJ X ah σ H s)(h:∀p∈afW,s.heap.get? p.1=some p.2/\H p.1=none/\p.1≠X.env.locals/\p.1∉X.fs/\∀v,p.2.data ≠ .cell v):aJ X afW σ H s:=
 ⟨I.ok,I.os,I.i6,I.base,I.Bd,I.cell,I.free,I.lU,λp hp=>(zbC.mp hp).elim (λz=>I.DM p (zby _ z)) (h p),I.cA,I.len⟩
theorem Be {N:List Str}(hN:N.Nodup){i j:Nat}{x:Str}(a:N[i]? = some x)(b:N[j]? = some x):i=j:=by
 obtain⟨h1,e1⟩:=zae.mp a
 obtain⟨h2,e2⟩:=zae.mp b
 exact (List.getElem_inj hN).mp (e1.trans e2.symm)
theorem xO {M:Model}{A:Around}{E:Value->Shared->Prop}{i:Nat}{x:Str}{v:V}{u:Value}{Q:Unit->Shared->Prop}(I:aJ X ah σ H s)(hN:X.N.Nodup)(hi:X.N[i]? = some x)(hx:VC X.env.scope x)(r:bG v u)
  (h:∀s',aJ X ah (σ.set i (some v)) H s'->(∃a,Heap.SameBut a s.heap s'.heap/\(a=X.env.locals\/X.env.cells.lookup x=some a))->Q () s') (hf:X.fn x=true\/X.env.scope.names.lookup x=some .local:=by first|exact .inl rfl|exact .inr rfl|assumption):wpAny M A (storeName X.env x u) Q E s:=by
 obtain⟨m,hn,hl⟩:=id I.Bd;have Zw:(X.env.scope.kind == .class || (X.env.scope.kind == .module && X.env.locals != X.env.globals))=false:=by rw[I.ok.kind];rfl
 have afX:i<σ.length:=by rw[I.len];exact (zae.mp hi).1
 have Zv:=I.Zv;have zA:∀{a:Addr} {h':Heap},(∃o,s.heap.get? a=some o/\H a=none)->Heap.SameBut a s.heap h'->oh X.prog X.w H h':=λ{a h'} ha hs b ob e=>by
  obtain⟨_,_,xP⟩:=ha;refine (I.cA b ob e).sj (λc w' hc q=>(hs.2 c ?_).trans q) (λ_ q=>q) λ_ _ q=>q
  rintro rfl
  rcases hc with rfl|hc
  ·rw[xP] at e;cases e
  ·rw[xP] at hc;cases hc
 rcases hx with hk|hk
 ·refine wpAny_storeName_local hk hn (λh' hn' hs=>?_) Zw
  obtain⟨oL,_,_,hoL,_⟩:=id hn;refine h _ ⟨I.ok,I.os,I.i6,⟨λb o e n hb hx=>?_,λb o e n hb hx=>?_,I.base.free,λb o e hx=>?_,I.base.wV,I.base.tD,I.base.wW⟩,⟨_,hn',λj y v' e1 e2 e3=>?_⟩,λy c e=>?_,I.free,I.lU,λp hp=>?_,zA ⟨oL,hoL,I.free⟩ hs,by simpa using I.len⟩ ⟨_,hs,.inl rfl⟩
  ·exact (hs.2 b (zaq (zan (zal e) I.ok.above))).trans (I.base.keep b o e n hb hx)
  ·obtain⟨sl,e1⟩:=I.base.slot b o e n hb hx
   exact⟨sl,(hs.2 b (zaq (zan (zal e) I.ok.above))).trans e1⟩
  ·obtain⟨o',e1⟩:=I.base.there b o e hx
   exact⟨o',(hs.2 b (zaq (zan (zal e) I.ok.above))).trans e1⟩
  ·by_cases hj:j=i
   ·subst hj
    rw[hi] at e1;cases e1
    rw[zaI afX] at e2;cases e2;exact⟨u,r,.inl ⟨hk,by simp⟩⟩
   ·rw[zay (zbg hj)] at e2
    obtain⟨u',r',q⟩:=hl j y v' e1 e2 e3;refine⟨u',r',?_⟩
    rcases q with⟨k,e⟩|⟨k,c,e,z⟩
    ·refine .inl ⟨k,?_⟩
     have:y≠x:=λe=>hj (Be hN e1 (e ▸ hi))
     simp[this,e]
    ·exact .inr ⟨k,c,e,z.sameBut hs (Zv y c e)⟩
  ·obtain⟨w',z⟩:=I.cell y c e
   exact⟨w',z.sameBut hs (Zv y c e)⟩
  ·obtain⟨e,n,ne,nf,d⟩:=I.DM p hp
   exact⟨(hs.2 p.1 ne).trans e,n,ne,nf,d⟩
 ·have hfn:X.fn x=true:=by
   rcases hf with z|z
   ·exact z
   ·rw[z] at hk;cases hk
  obtain⟨c,hc⟩:=I.ok.has x (.inl hk)
  obtain⟨w',z⟩:=I.cell x c hc;refine wpAny_storeName_cell I.ok.kind hk hc z (λh' Q4 hs=>?_)
  obtain⟨oc,hoc,alk⟩:=id z;refine h {s with heap:=h' } ⟨I.ok,I.os,I.i6,⟨λb o e n hb hx=>?_,λb o e n hb hx=>?_,I.base.free,λb o e hx=>?_,I.base.wV,I.base.tD,I.base.wW⟩,⟨m,hn.sameBut hs (zbg (Zv x c hc)),λj y v' e1 e2 e3=>?_⟩,λy c' e=>?_,I.free,I.lU,λp hp=>?_,zA ⟨oc,hoc,I.lU x c hc⟩ hs,by simpa using I.len⟩ ⟨c,hs,.inr hc⟩
  ·exact (hs.2 b (zaq (zan (zal e) (I.ok.Zu x c hfn hc)))).trans (I.base.keep b o e n hb hx)
  ·obtain⟨sl,e1⟩:=I.base.slot b o e n hb hx
   exact⟨sl,(hs.2 b (zaq (zan (zal e) (I.ok.Zu x c hfn hc)))).trans e1⟩
  ·obtain⟨o',e1⟩:=I.base.there b o e hx
   exact⟨o',(hs.2 b (zaq (zan (zal e) (I.ok.Zu x c hfn hc)))).trans e1⟩
  ·by_cases hj:j=i
   ·subst hj
    rw[hi] at e1;cases e1
    rw[zaI afX] at e2;cases e2;exact⟨u,r,.inr ⟨.inl hk,c,hc,Q4⟩⟩
   ·rw[zay (zbg hj)] at e2
    obtain⟨u',r',q⟩:=hl j y v' e1 e2 e3;refine⟨u',r',?_⟩
    rcases q with q|⟨k,c',e,z'⟩
    ·exact .inl q
    ·refine .inr ⟨k,c',e,z'.sameBut hs ?_⟩
     rintro rfl
     exact hj (Be hN e1 (I.ok.inj _ _ _ e hc ▸ hi))
  ·by_cases hcc:c'=c
   ·subst hcc;exact⟨_,Q4⟩
   ·obtain⟨w2,z2⟩:=I.cell y c' e
    exact⟨w2,z2.sameBut hs hcc⟩
  ·obtain⟨e,n,ne,nf,d⟩:=I.DM p hp
   refine⟨(hs.2 p.1 ?_).trans e,n,ne,nf,d⟩
   intro q;rw[q,hoc] at e;have q':oc=p.2:=zav e
   exact d w' (by rw[<-q'];exact alk)
theorem o_ (I:aJ X ah σ H s)(hN:X.N.Nodup)(hi:X.N[i]? = some x)(hx:VC X.env.scope x)(r:bG v u)
  (h:∀s',aJ X ah (σ.set i (some v)) H s'->Q () s') (hf:X.fn x=true\/X.env.scope.names.lookup x=some .local:=by first|exact .inl rfl|exact .inr rfl|assumption):wpAny M A (storeName X.env x u) Q E s:=
 xO I hN hi hx r (λs' I' _=>h s' I') hf
theorem aJ.Gw (I:aJ X ah σ H s)(ho:s'.os=s.os)(u:Un (sN X.di) ch H H' s.heap s'.heap)(cA:oh X.prog X.w H' s'.heap)(hg:AllBare s'.gens)
  (QS:∀b∈ch,(b∈X.ex\/X.s₀.heap.objs.size<=b)/\b≠X.env.locals/\(∀x c,X.env.cells.lookup x=some c->c≠b)/\∀p∈X.pn++ah,p.1≠b):aJ X ah σ H' s':=by
 obtain⟨h',g',d',t',o'⟩:=s';have e:o'=s.os:=ho
 subst e;exact I.call (g':=g') (t':=t') (d':=d') u cA hg QS
end
noncomputable abbrev XK:=Value->Option Addr->Hp->Prop
noncomputable abbrev St:=List (Option V)
noncomputable abbrev VK:=V->Hp->Prop
noncomputable abbrev TE:=St->Hp->VK->Prop
noncomputable abbrev TT:=St->Hp->(Bool->Hp->Prop)->Prop
noncomputable abbrev TA:=St->Hp->(List V->Hp->Prop)->Prop
structure Bf where
 nx:St->Hp->Prop
 rt:VK
 bk:St->Hp->Prop:=λ_ _=>False
 ct:St->Hp->Prop:=λ_ _=>False
noncomputable abbrev TS:=Bf->St->Hp->Prop
noncomputable def EP (X:Cx)(ah:List (Addr×Obj))(σ:St)(Q:VK)(u:Value)(s':Shared):Prop:=∃v H',aJ X ah σ H' s'/\bG v u/\Q v H'
noncomputable def TP (X:Cx)(ah:List (Addr×Obj))(σ:St)(Q:Bool->Hp->Prop)(b:Bool)(s':Shared):Prop:=∃H',aJ X ah σ H' s'/\Q b H'
noncomputable def AP (X:Cx)(ah:List (Addr×Obj))(σ:St)(Q:List V->Hp->Prop)(us:List Value)(s':Shared):Prop:=∃vs H',aJ X ah σ H' s'/\bA vs us/\Q vs H'
noncomputable def SP (X:Cx)(ah:List (Addr×Obj))(D:Bf)(f:Flow)(s':Shared):Prop:=
 match f with
 |.next=>∃fm H',aJ X ah fm H' s'/\D.nx fm H'
 |.brk=>∃fm H',aJ X ah fm H' s'/\D.bk fm H'
 |.cont=>∃fm H',aJ X ah fm H' s'/\D.ct fm H'
 |.ret u=>∃v fm H',aJ X ah fm H' s'/\bG v u/\D.rt v H'
noncomputable def PE (X:Cx)(e:Expr)(t:TE):Prop:=
 ∀(ah:List (Addr×Obj)) (s:Shared) (σ:St) (H:Hp) (Q:VK),aJ X ah σ H s->t σ H Q->wpAny (model X.prog X.w) X.A (eval e X.env) (EP X ah σ Q) X.xe s
noncomputable def PT (X:Cx)(e:Expr)(t:TT):Prop:=
 ∀(ah:List (Addr×Obj)) (s:Shared) (σ:St) (H:Hp) (Q:Bool->Hp->Prop),aJ X ah σ H s->t σ H Q->wpAny (model X.prog X.w) X.A (isTrue e X.env (eval e X.env)) (TP X ah σ Q) X.xe s
noncomputable def PW (X:Cx)(e:Expr)(t:TT):Prop:=
 ∀(tG:Sem Value) (ah:List (Addr×Obj)) (s:Shared) (σ:St) (H:Hp) (Q:Bool->Hp->Prop),aJ X ah σ H s->t σ H Q->wpAny (model X.prog X.w) X.A (isTrue e X.env tG) (TP X ah σ Q) X.xe s
theorem PW.pt (h:PW X e t):PT X e t:=h _
noncomputable def PA (X:Cx)(es:List Expr)(t:TA):Prop:=
 ∀(pos:Pos) (ah:List (Addr×Obj)) (s:Shared) (σ:St) (H:Hp) (Q:List V->Hp->Prop),aJ X ah σ H s->t σ H Q->wpAny (model X.prog X.w) X.A (spliced (backTo pos (starEach es X.env))) (AP X ah σ Q) X.xe s
noncomputable def PS (X:Cx)(st:Stmt)(t:TS):Prop:=
 ∀(ah:List (Addr×Obj)) (s:Shared) (σ:St) (H:Hp) (D:Bf),aJ X ah σ H s->t D σ H->wpAny (model X.prog X.w) X.A (exec st X.env) (SP X ah D) X.xe s
noncomputable def xQ (X:Cx)(st:List Stmt)(t:TS):Prop:=
 ∀(ah:List (Addr×Obj)) (s:Shared) (σ:St) (H:Hp) (D:Bf),aJ X ah σ H s->t D σ H->wpAny (model X.prog X.w) X.A (execs st X.env) (SP X ah D) X.xe s
theorem cM {α:Type}{t:Sem α}{Q Q' : α -> Shared->Prop}{M:Model}{A:Around}{E:Value->Shared->Prop}{s:Shared}(h:wpAny M A t Q E s)(hQ:∀a s,Q a s->Q' a s):wpAny M A t Q' E s:=zaQ h hQ λ_ _ x=>x
section
variable {X:Cx}
noncomputable def afY (i:Nat):TE:=λσ H Q=>∃v,σ[i]? = some (some v)/\Q v H
noncomputable def tC (v:V):TE:=λ_ H Q=>Q v H
theorem Lj (hN:X.N[i]? = some x)(hv:Vis X.env.scope x)(hd:(x == ("__debug__" : Str))=false:=by decide)(Bg:(x == ("__classdict__" : Str))=false:=by decide):PE X (.Name x pos) (afY i):=by
 intro ah s σ H Q I h;obtain⟨v,e,h⟩:=h;obtain⟨m,hn,hl⟩:=I.Bd;obtain⟨u,r,l⟩:=hl i x v hN e hv;have fS:EP X ah σ Q u s:=⟨v,H,I,r,h⟩
 rcases l with⟨hk,hm⟩|⟨hk,c,hc,Bh⟩
 ·exact wpAny_Name (wpAny_loadName_local I.ok.kind hk hn hm fS) hd
 ·rcases hk with hk|hk
  ·exact wpAny_Name (wpAny_loadName_cell I.ok.kind hk hc Bh fS) hd
  ·exact wpAny_Name (wpAny_loadName_free I.ok.kind hk hc Bh fS Bg) hd
theorem Zx {i j pos}:PE X (.Constant (.int i) j pos) (tC (.int i)):=λ_ _ _ H _ I h=>wpAny_Constant_int ⟨.int i,H,I.o8 _,⟨_,rfl⟩,h⟩
theorem afZ {b j pos}:PE X (.Constant (.bool b) j pos) (tC (.bl b)):=λ_ _ _ H _ I h=>Constant_bool ⟨.bl b,H,I,rfl,h⟩
theorem Zy {j pos}:PE X (.Constant .none j pos) (tC .bz):=λ_ _ _ H _ I h=>Constant_none ⟨.bz,H,I,rfl,h⟩
theorem Zz {x j pos}:PE X (.Constant (.str x) j pos) (tC (.str x)):=λ_ _ _ H _ I h=>Calls.Constant_str ⟨.str x,H,I.o8 _,⟨_,rfl⟩,h⟩
noncomputable def Gl (X:Cx)(x:Str):Prop:=X.env.kindOf x=some .globalImplicit
theorem nI (I:aJ X ah σ H s)(hg:Gl X x)(hm:X.mg x=some u)(h:Q u s)
  (hd:(x == ("__debug__" : Str))=false:=by decide):wpAny (model X.prog X.w) X.A (eval (.Name x pos) X.env) Q E s:=
 zdB I.ok.kind hg (Calls.loadGlobal_global (by rw[I.ok.tE];exact I.tF.tE.keeps I.bk) hm h) hd
theorem tH (I:aJ X ah σ H s)(hg:Gl X x)(hm:X.mg x=none)(hv:bootBuiltins x=some u)(h:Q u s)
  (hn:x ≠ "__name__" := by decide) (hd:(x == ("__debug__" : Str))=false:=by decide):wpAny (model X.prog X.w) X.A (eval (.Name x pos) X.env) Q E s:=by
 obtain⟨mb,h1,h2⟩:=I.tF.VB;exact zdB I.ok.kind hg (Calls.loadGlobal_builtin (by rw[I.ok.tE];exact I.tF.tE.keeps I.bk) hm (by rw[I.ok.VB];exact h1.keeps I.bk) ((h2 x hn).trans hv) h) hd
theorem Q5 (hg:Gl X x)(hm:X.mg x=some u)(r:bG v u)(hd:(x == ("__debug__" : Str))=false:=by decide):PE X (.Name x pos) (tC v):=
 λ_ _ _ H _ I h=>nI I hg hm ⟨v,H,I,r,h⟩ hd
theorem Q6 (hg:Gl X x)(hm:X.mg x=none)(hv:bootBuiltins x=some u)(r:bG v u)(hn:x ≠ "__name__" := by decide)(hd:(x == ("__debug__" : Str))=false:=by decide):PE X (.Name x pos) (tC v):=
 λ_ _ _ H _ I h=>tH I hg hm hv ⟨v,H,I,r,h⟩ hn hd
variable {a b:Expr}{ta tb:TE}{pos:Pos}
noncomputable def PC (X:Cx)(op:CmpOp)(a b:Expr)(t:TE):Prop:=
 ∀(ah:List (Addr×Obj)) (s:Shared) (σ:St) (H:Hp) (Q:VK),aJ X ah σ H s->t σ H Q ->
  wpAny (model X.prog X.w) X.A (eval a X.env) (λv cN=>wpAny (model X.prog X.w) X.A (eval b X.env) (λu mQ=>wpAny (model X.prog X.w) X.A (compareOp op v u) (EP X ah σ Q) X.xe mQ) X.xe cN) X.xe s
noncomputable def tB (t:TE):TT:=λσ H Q=>t σ H λx H1=>∃c,x = .bl c/\Q c H1
theorem ZA (h:PC X op a b t)(h1:behindInMarks op b=false:=by first|exact Lk _ (by decide) (by decide)|rfl):PE X (.Compare a [op] [b] pos) t:=λah s σ H Q I hw=>wpAny_Compare1 (h ah s σ H Q I hw) h1
theorem Ll (h:PC X op a b t)(h1:behindInMarks op b=false:=by first|exact Lk _ (by decide) (by decide)|rfl):PT X (.Compare a [op] [b] pos) (tB t):=by
 intro ah s σ H Q I hw;refine wpAny_isTrue_Compare1 (cM (h ah s σ H _ I hw) λv s1 h1=>cM h1 λu s2 h2=>cM h2 λc s3 ⟨x,H1,I1,r1,q1⟩=>?_) h1
 obtain⟨d,rfl,q⟩:=q1;cases r1;exact zbc ⟨H1,I1,q⟩
theorem ZC (h:PE X e t)(he:∀tG,isTrue e X.env tG=(do let v <-tG;standAt e.pos;holding [v] (truthy v)):=by intro _;rfl):PT X e (tB t):=by
 intro ah s σ H Q I hw;refine isTrue_plain (cM (h ah s σ H _ I hw) λv s1 ⟨x,H1,I1,r1,q1⟩=>?_) (he _)
 obtain⟨d,rfl,q⟩:=q1;cases r1;exact zbc ⟨H1,I1,q⟩
variable {tA tB':TT}{dm:List Expr}
noncomputable def alm (t u:TT):TT:=λσ H Q=>t σ H λc H1=>if c=true then u σ H1 Q else Q false H1
noncomputable def tOr (t u:TT):TT:=λσ H Q=>t σ H λc H1=>if c=true then Q true H1 else u σ H1 Q
noncomputable def aln (t:TT):TT:=λσ H Q=>t σ H λc H1=>Q (!c) H1
theorem Q7 (ha:PT X a tA):PW X (.BoolOp .And [a] pos) tA:=by
 intro wh ah s σ H Q I h;refine isTrue_and (cM (ha ah s σ H Q I h) λc s1 e=>?_)
 cases c with
 |true=>exact isTrue_and_nil e
 |false=>exact e
theorem ZD (ha:PT X a tA):PW X (.BoolOp .Or [a] pos) tA:=by
 intro wh ah s σ H Q I h;refine isTrue_or (cM (ha ah s σ H Q I h) λc s1 e=>?_)
 cases c with
 |false=>exact isTrue_or_nil e
 |true=>exact e
theorem ZE (ha:PT X a tA)(hb:PW X (.BoolOp .And (b::dm) pos) tB'):PW X (.BoolOp .And (a::b::dm) pos) (alm tA tB'):=by
 intro wh ah s σ H Q I h;refine isTrue_and (cM (ha ah s σ H _ I h) λc s1 ⟨H1,I1,q1⟩=>?_)
 cases c with
 |true=>exact hb wh ah s1 σ H1 Q I1 q1
 |false=>exact⟨H1,I1,q1⟩
theorem af0 (ha:PT X a tA)(hb:PW X (.BoolOp .Or (b::dm) pos) tB'):PW X (.BoolOp .Or (a::b::dm) pos) (tOr tA tB'):=by
 intro wh ah s σ H Q I h;refine isTrue_or (cM (ha ah s σ H _ I h) λc s1 ⟨H1,I1,q1⟩=>?_)
 cases c with
 |true=>exact⟨H1,I1,q1⟩
 |false=>exact hb wh ah s1 σ H1 Q I1 q1
theorem ZF (ha:PT X a tA):PT X (.UnaryOp .Not a pos) (aln tA):=by
 intro ah s σ H Q I h;exact isTrue_not (ha ah s σ H (λc H1=>Q (!c) H1) I h)
noncomputable def af1 (ta tb:TE):TE:=λσ H Q=>ta σ H λx H1=>∃c,x = .bl c/\if c=true then tb σ H1 Q else Q (.bl false) H1
noncomputable def alo (ta tb:TE):TE:=λσ H Q=>ta σ H λx H1=>∃c,x = .bl c/\if c=true then Q (.bl true) H1 else tb σ H1 Q
noncomputable def af2 (ta:TE):TE:=λσ H Q=>ta σ H λx H1=>∃c,x = .bl c/\Q (.bl (!c)) H1
theorem ZG {op}(h:PE X a t):PE X (.BoolOp op [a] pos) t:=λah s σ H Q I hw=>BoolOp_one (h ah s σ H Q I hw)
theorem ZH (ha:PE X a ta)(hb:PE X (.BoolOp .And (b::dm) pos) tb):PE X (.BoolOp .And (a::b::dm) pos) (af1 ta tb):=by
 intro ah s σ H Q I h;refine BoolOp_and (cM (ha ah s σ H _ I h) λv s1 ⟨x,H1,I1,r1,q1⟩=>?_)
 obtain⟨c,rfl,q1⟩:=q1;cases r1;refine zbc ?_
 cases c with
 |true=>exact hb ah s1 σ H1 Q I1 q1
 |false=>exact⟨.bl false,H1,I1,rfl,q1⟩
theorem af3 (ha:PE X a ta)(hb:PE X (.BoolOp .Or (b::dm) pos) tb):PE X (.BoolOp .Or (a::b::dm) pos) (alo ta tb):=by
 intro ah s σ H Q I h;refine BoolOp_or (cM (ha ah s σ H _ I h) λv s1 ⟨x,H1,I1,r1,q1⟩=>?_)
 obtain⟨c,rfl,q1⟩:=q1;cases r1;refine zbc ?_
 cases c with
 |false=>exact hb ah s1 σ H1 Q I1 q1
 |true=>exact⟨.bl true,H1,I1,rfl,q1⟩
theorem ZI (ha:PE X a ta):PE X (.UnaryOp .Not a pos) (af2 ta):=by
 intro ah s σ H Q I h;refine UnaryOp_ (cM (ha ah s σ H _ I h) λv s1 ⟨x,H1,I1,r1,q1⟩=>?_)
 obtain⟨c,rfl,q1⟩:=q1;cases r1;exact not_of (zbc ⟨.bl (!c),H1,I1,rfl,q1⟩)
noncomputable def tIf (t:TT)(ta tb:TE):TE:=λσ H Q=>t σ H λc H1=>if c=true then ta σ H1 Q else tb σ H1 Q
theorem Ln (hc:PT X c tA)(ha:PE X a ta)(hb:PE X b tb):PE X (.IfExp c a b pos) (tIf tA ta tb):=by
 intro ah s σ H Q I h;refine wpAny_IfExp (cM (hc ah s σ H _ I h) λd s1 ⟨H1,I1,q1⟩=>?_)
 cases d with
 |true=>exact ha ah s1 σ H1 Q I1 q1
 |false=>exact hb ah s1 σ H1 Q I1 q1
end
noncomputable def jC (K:PySem.W.Frag)(H:Hp)(a:Addr)(xs:List V):Prop:=
 Rd H a (.aM xs) \/
  ∃(o:Obj) (aI:Array Value) (n:Nat),K.lookup a=some o/\o.cls = .type "list" /\ o.dict=none/\o.data = .seq aI n/\aI.size<=sizeLine/\bA xs aI.toList
noncomputable def nJ (K:PySem.W.Frag)(H:Hp)(a:Addr)(xs:List V):Prop:=
 Rd H a (.fP xs) \/
  ∃(o:Obj) (aI:Array Value) (n:Nat),K.lookup a=some o/\o.cls = .type "tuple" /\ o.data = .seq aI n/\aI.size<=sizeLine/\bA xs aI.toList
noncomputable def alp:Value->Option V
 |.none=>some .bz
 |.bool b=>some (.bl b)
 |.int i _=>some (.int i)
 |.str x _=>some (.str x)
 |.bytes b _=>some (.K0 b)
 |.float b _=>some (.Zo b)
 |.ref a=>some (.ref a)
 |.type n=>some (.ty n)
 |_=>none
theorem bG.abs (r:bG x u):alp u=some x:=by
 cases x with
 |bz=>cases r;rfl
 |bl _=>cases r;rfl
 |int _=>obtain⟨t,rfl⟩:=r;rfl
 |str _=>obtain⟨t,rfl⟩:=r;rfl
 |K0 _=>obtain⟨t,rfl⟩:=r;rfl
 |Zo _=>obtain⟨t,rfl⟩:=r;rfl
 |ref _=>cases r;rfl
 |ty _=>cases r;rfl
theorem bG.inj (r:bG x u)(q:bG y u):x=y:=zav (r.abs.symm.trans q.abs)
theorem bA.inj:∀{xs ys:List V} {us:List Value},bA xs us->bA ys us->xs=ys
 |_,_,_,.nil,.nil=>rfl
 |_,_,_,.cons r t,.cons r' t'=>by rw[r.inj r',bA.inj t t']
theorem jC.of {K:PySem.W.Frag}(h:H a=some (.aM xs)):jC K H a xs:=.inl (.inl h)
theorem nJ.of {K:PySem.W.Frag}(h:H a=some (.fP xs)):nJ K H a xs:=.inl (.inl h)
theorem aJ.list (I:aJ X ah σ H s)(h:jC X.K H a xs):∃aI:List Value,bA xs aI/\PlainL s.heap a aI.toArray/\xs.length<=sizeLine:=by
 rcases h with h|⟨o,aI,n,hk,hc,hd,hs,hz,r⟩
 ·obtain⟨z,aI,n,r,e⟩:=h.ok I.cA
  exact⟨aI,r,⟨_,n,e,rfl,rfl,rfl⟩,z⟩
 ·refine⟨aI.toList,r,⟨o,n,I.kO a o hk,hc,hd,by simpa using hs⟩,?_⟩
  have e:=r.length;simp only[zdq] at e;omega
theorem aJ.fj (I:aJ X ah σ H s)(h:nJ X.K H a xs):∃aI:List Value,bA xs aI/\IsTup s.heap a aI.toArray/\xs.length<=sizeLine:=by
 rcases h with h|⟨o,aI,n,hk,hc,hs,hz,r⟩
 ·obtain⟨z,aI,r,p⟩:=h.ok I.cA
  exact⟨aI,r,p,z⟩
 ·refine⟨aI.toList,r,⟨o,I.kO a o hk,hc,n,by simpa using hs⟩,?_⟩
  have e:=r.length;simp only[zdq] at e;omega
theorem aJ.Bj (I:aJ X ah σ H s)(h:jC X.K H a xs)(h':jC X.K H a ys):xs=ys:=by
 obtain⟨aI,r,⟨o,n,e,_,_,d⟩,_⟩:=I.list h
 obtain⟨its',r',⟨o',n',e',_,_,d'⟩,_⟩:=I.list h'
 rw[e] at e';cases e'
 rw[d] at d';injection d' with d1 _
 have:aI=its':=by simpa using congrArg Array.toList d1
 subst this;exact r.inj r'
theorem aJ.xR (I:aJ X ah σ H s)(h:nJ X.K H a xs)(h':nJ X.K H a ys):xs=ys:=by
 obtain⟨aI,r,⟨o,e,_,n,d⟩,_⟩:=I.fj h
 obtain⟨its',r',⟨o',e',_,n',d'⟩,_⟩:=I.fj h'
 rw[e] at e';cases e'
 rw[d] at d';injection d' with d1 _
 have:aI=its':=by simpa using congrArg Array.toList d1
 subst this;exact r.inj r'
noncomputable abbrev Cx.su (X:Cx)(E:Value->Shared->Prop):Cx:={X with xe:=E}
noncomputable abbrev Cx.DN (X:Cx):Cx:=X.su λ_ _=>False
theorem Cx.Ok.su {X:Cx}(ok:X.Ok)(E:Value->Shared->Prop):(X.su E).Ok:=
 ⟨ok.tF,ok.kind,ok.tE,ok.VB,ok.above,ok.inj,ok.has,ok.Zu,ok.hd,ok.frames,ok.stk,ok.exf,ok.bs,ok.QO,ok.jB,ok.Eb,ok.mj,ok.Li⟩
theorem Cx.Ok.gm {X:Cx}{E:Value->Shared->Prop}(ok:(X.su E).Ok):X.Ok:=
 ⟨ok.tF,ok.kind,ok.tE,ok.VB,ok.above,ok.inj,ok.has,ok.Zu,ok.hd,ok.frames,ok.stk,ok.exf,ok.bs,ok.QO,ok.jB,ok.Eb,ok.mj,ok.Li⟩
theorem aJ.su (I:aJ X ah σ H s)(E:Value->Shared->Prop):aJ (X.su E) ah σ H s:=⟨I.ok.su E,I.os,I.i6,I.base,I.Bd,I.cell,I.free,I.lU,I.DM,I.cA,I.len⟩
theorem aJ.gm (I:aJ (X.su E) ah σ H s):aJ X ah σ H s:=⟨I.ok.gm,I.os,I.i6,I.base,I.Bd,I.cell,I.free,I.lU,I.DM,I.cA,I.len⟩
theorem SP.gm (h:SP (X.su E) ah D f s'):SP X ah D f s':=by
 cases f with
 |next=>obtain⟨fm,H',I,q⟩:=h;exact⟨fm,H',I.gm,q⟩
 |brk=>obtain⟨fm,H',I,q⟩:=h;exact⟨fm,H',I.gm,q⟩
 |cont=>obtain⟨fm,H',I,q⟩:=h;exact⟨fm,H',I.gm,q⟩
 |ret u=>obtain⟨v,fm,H',I,r,q⟩:=h;exact⟨v,fm,H',I.gm,r,q⟩
theorem xQ.DN {st:List Stmt}{t:TS}(h:xQ X.DN st t):xQ X st t:=λah s σ H D I hw =>
 zaQ (h ah s σ H D (I.su _) hw) (λ_ _ q=>q.gm) λ_ _ z=>False.elim z
section
variable {X:Cx}{st:Stmt}{dm:List Stmt}{t u:TS}{e:Expr}{te:TE}{pos:Pos}
noncomputable def af4:TS:=λD σ H=>D.nx σ H
noncomputable def alq (t u:TS):TS:=λD σ H=>t {D with nx:=u D} σ H
theorem Q8:xQ X [] af4:=λ_ _ σ H _ I h=>zcK ⟨σ,H,I,h⟩
theorem tK (h1:PS X st t)(h2:xQ X dm u):xQ X (st::dm) (alq t u):=by
 intro ah s σ H D I h;refine zdL (cM (h1 ah s σ H {D with nx:=u D} I h) λf s1 q=>?_)
 cases f with
 |next =>
  obtain⟨fm,H',I',q⟩:=q;exact h2 ah s1 fm H' D I' q
 |ret v=>exact q
 |brk=>exact q
 |cont=>exact q
theorem Gy (h1:PS X st t):xQ X [st] t:=by
 intro ah s σ H D I h;refine zdL (cM (h1 ah s σ H D I h) λf s1 q=>?_)
 cases f with
 |next=>exact zcK q
 |ret v=>exact q
 |brk=>exact q
 |cont=>exact q
noncomputable def af5:TS:=λD σ H=>D.ct σ H
theorem Bk:PS X (.Continue pos) af5:=λ_ _ σ H _ I h=>wpAny_Continue ⟨σ,H,I,h⟩
theorem aJ.quiet (I:aJ X ah σ H s):interactive X.env=false:=by simp[interactive,I.ok.kind]
noncomputable def af6 (te:TE):TS:=λD σ H=>te σ H λ_ H1=>D.nx σ H1
theorem Gz (he:PE X e te)(hs:swapsWith e none pos.line X.env=pure false:=by rfl):PS X (.Expr e pos) (af6 te):=by
 intro ah s σ H D I h;exact wpAny_Expr_any (cM (he ah s σ H _ I h) λv s1 ⟨x,H1,I1,r1,q1⟩=>⟨σ,H1,I1,q1⟩) I.quiet hs
noncomputable def alr (te:TE):TS:=λD σ H=>te σ H D.rt
theorem ZJ (he:PE X e te):PS X (.Return (some e) pos) (alr te):=by
 intro ah s σ H D I h;exact wpAny_Return_some (cM (he ah s σ H _ I h) λv s1 ⟨x,H1,I1,r1,q1⟩=>⟨x,σ,H1,I1,r1,q1⟩)
noncomputable def als (c:TT)(t u:TS):TS:=λD σ H=>c σ H λb H1=>if b=true then t D σ H1 else u D σ H1
theorem af7 (hc:PT X c tc)(ha:xQ X a t)(hb:xQ X b u):PS X (.If c a b pos) (als tc t u):=by
 intro ah s σ H D I h;refine wpAny_If (cM (hc ah s σ H _ I h) λd s1 ⟨H1,I1,q1⟩=>?_)
 cases d with
 |true=>exact ha ah s1 σ H1 D I1 q1
 |false=>exact hb ah s1 σ H1 D I1 q1
end
noncomputable abbrev TG:=V->St->Hp->(St->Hp->Prop)->Prop
noncomputable abbrev VF:=List V->St->Hp->(St->Hp->Prop)->Prop
noncomputable def PG (X:Cx)(target:Expr)(t:TG):Prop:=
 ∀(ah:List (Addr×Obj)) (s:Shared) (σ:St) (H:Hp) (v:V) (u:Value) (Q:St->Hp->Prop),aJ X ah σ H s->bG v u->t v σ H Q ->
  wpAny (model X.prog X.w) X.A (assign target X.env u) (λ_ s'=>∃fm H',aJ X ah fm H' s'/\Q fm H') X.xe s
noncomputable def QT (X:Cx)(ts:List Expr)(t:VF):Prop:=
 ∀(ah:List (Addr×Obj)) (s:Shared) (σ:St) (H:Hp) (vs:List V) (us:List Value) (Q:St->Hp->Prop),aJ X ah σ H s->bA vs us->t vs σ H Q ->
  wpAny (model X.prog X.w) X.A (assignInOrder ((assignEach ts X.env).map (·.2)) us) (λ_ s'=>∃fm H',aJ X ah fm H' s'/\Q fm H') X.xe s
noncomputable abbrev af8:=V->V->V->Hp->(Hp->Prop)->Prop
noncomputable def ZK (X:Cx)(t:af8):Prop:=
 ∀(ah:List (Addr×Obj)) (s:Shared) (σ:St) (H:Hp) (o i v:V) (ov iv u:Value) (Q:Hp->Prop),aJ X ah σ H s->bG o ov->bG i iv->bG v u->t o i v H Q ->
  wpAny (model X.prog X.w) X.A (setItem ov iv u) (λ_ s'=>∃H',aJ X ah σ H' s'/\Q H') X.xe s
noncomputable def GA (i:Nat):TG:=λv σ H Q=>Q (σ.set i (some v)) H
theorem Q9 (hN:X.N.Nodup)(hi:X.N[i]? = some x)(hx:VC X.env.scope x)(hf:X.fn x=true\/X.env.scope.names.lookup x=some .local:=by first|exact .inl rfl|exact .inr rfl|assumption):PG X (.Name x pos) (GA i):=by
 intro ah s σ H v u Q I r h;exact wpAny_assign_Name (o_ I hN hi hx r (λs' I'=>⟨_,H,I',h⟩) hf)
noncomputable def alu:VF:=λvs σ H Q=>vs=[]/\Q σ H
noncomputable def af9 (t:TG)(u:VF):VF:=λvs σ H Q=>∃v r,vs=v::r/\t v σ H λfm H'=>u r fm H' Q
theorem Q_:QT X [] alu:=by
 intro ah s σ H vs us Q I r h;obtain⟨e,h⟩:=h;subst e;cases r;exact assignInOrder_nil ⟨σ,H,I,h⟩
theorem Lo (h1:PG X e t)(h2:QT X es u)
  (hs:(assignEach (e::es) X.env).map (·.2)=assign e X.env::(assignEach es X.env).map (·.2):=by rfl):QT X (e::es) (af9 t u):=by
 intro ah s σ H vs us Q I r h;obtain⟨v,vr,e1,h⟩:=h;subst e1;cases r with
 |cons r rr =>
  rw[hs];refine zdu (cM (h1 ah s σ H _ _ _ I r h) λ_ s1 ⟨σ1,H1,I1,q1⟩=>?_)
  exact h2 ah s1 σ1 H1 _ _ Q I1 rr q1
noncomputable def alv (K:PySem.W.Frag)(n:Nat)(t:VF):TG:=λv σ H Q=>∃a xs,v = .ref a/\nJ K H a xs/\xs.length=n/\t xs σ H Q
theorem ZL (hc:X.fL=true)(h:QT X es t)
  (hn:(assignEach es X.env).length=n:=by rfl) (qy:(assignEach es X.env).findIdx? (·.1)=none:=by rfl):PG X (.Tuple es k pos) (alv X.K n t):=by
 intro ah s σ H v u Q I r hw;obtain⟨a,xs,e1,hq,hl,hw⟩:=hw;subst e1;cases r;obtain⟨aI,rv,ht,hz⟩:=I.fj hq;refine assign_Tuple_tuple (I.ok.hd hc) ht (by simp[hn,<-hl,rv.length]) qy λh' hx=>?_
 have I1:aJ X ah σ H {s with heap:=h' }:=I.gA (t':=s.toks) λb o e=>hx b o (zaq (zal e)) e
 exact h ah _ σ H xs _ Q I1 (by simpa using rv) hw
noncomputable def alw (to ti:TE)(t:af8):TG:=λv σ H Q=>to σ H λo H1=>ti σ H1 λi H2=>t o i v H2 λH3=>Q σ H3
theorem ZM (ho:PE X o to)(hi:PE X i ti)(hs:ZK X t)
  (ha:∀v,assign (.Subscript o i pos) X.env v=(do
   let ov <-holding [v] (eval o X.env)
   let iv <-holding [v,ov] (eval i X.env)
   standAt pos
   holding [v,ov,iv] (setItem ov iv v)
   release [v,ov,iv] []):=by intro _;rfl):PG X (.Subscript o i pos) (alw to ti t):=by
 intro ah s σ H v u Q I r h;rw[ha];refine zaa (zaH (cM (ho ah s σ H _ I h) λov s1 ⟨x,H1,I1,r1,q1⟩=>?_))
 refine zaa (zaH (cM (hi ah s1 σ H1 _ I1 q1) λiv s2 ⟨y,H2,I2,r2,q2⟩=>?_))
 refine zaa (zcg (zaa (zaH (cM (hs ah s2 σ H2 x y v ov iv u _ I2 r1 r2 r q2) λ_ s3 ⟨H3,I3,q3⟩=>?_))))
 exact wpAny_release ⟨σ,H3,I3,q3⟩
noncomputable def Ra (te:TE)(g:TG):TS:=λD σ H=>te σ H λx H1=>g x σ H1 D.nx
theorem ZN (he:PE X e te)(hg:PG X tg g)(hs:swapsWithSole [tg] e pos.line X.env=pure false:=by rfl)(hw:swappedStores [tg] e X.env=pure none:=by rfl)
  (h1:(assignEach [tg] X.env).map (·.2)=[assign tg X.env]:=by rfl):PS X (.Assign [tg] e pos) (Ra te g):=by
 intro ah s σ H D I h;refine wpAny_Assign_stores (cM (he ah s σ H _ I h) λv s1 ⟨x,H1,I1,r1,q1⟩=>?_) hs hw
 rw[h1];exact cM (hg ah s1 σ H1 x v _ I1 r1 q1) λ_ s2 q=>q
theorem ZO (hN:X.N.Nodup)(hi:X.N[i]? = some x)(hx:VC X.env.scope x)(he:PE X e te)(hs:swapsWith e (some (.Name x jD)) pos.line X.env=pure false:=by rfl)(hf:X.fn x=true\/X.env.scope.names.lookup x=some .local:=by first|exact .inl rfl|exact .inr rfl|assumption):
  PS X (.Assign [.Name x jD] e pos) (Ra te (GA i)):=by
 intro ah s σ H D I h;refine wpAny_Assign_Name (cM (he ah s σ H _ I h) λv s1 ⟨y,H1,I1,r1,q1⟩=>?_) hs
 exact o_ I1 hN hi hx r1 (λs2 I2=>⟨_,H1,I2,q1⟩) hf
noncomputable def alx (i j:Nat)(ta:TA):TS:=λD σ H=>ta σ H λvs H1=>∃v w,vs=[v,w]/\D.nx ((σ.set i (some v)).set j (some w)) H1
theorem ZP {kt k2 ZQ}(hc:X.fL=true)(hN:X.N.Nodup)(hi:X.N[i]? = some x)(hj:X.N[j]? = some y)(hij:i≠j)
  (hx:X.env.scope.names.lookup x=some .local) (hy:X.env.scope.names.lookup y=some .local) (ha:PA X [a,b] ta)
  (hw:swappedStores [.Tuple [.Name x px,.Name y py] kt pt] (.Tuple [a,b] k2 ZQ) X.env=pure (some [x,y]))
  (hs:swapsWithSole [.Tuple [.Name x px,.Name y py] kt pt] (.Tuple [a,b] k2 ZQ) pos.line X.env=pure false:=by rfl):
  PS X (.Assign [.Tuple [.Name x px,.Name y py] kt pt] (.Tuple [a,b] k2 ZQ) pos) (alx i j ta):=by
 intro ah s σ H D I h;rw[exec_Assign_arm];refine zaa (zcg ?_)
 rw[hs];refine zaa (zac ?_)
 rw[if_neg (by decide)]
 refine zaa (Tuple_ (cM (ha _ ah s σ H _ I h) λus s1 ⟨vs,H1,I1,r1,q1⟩=>?_))
 obtain⟨v,w,e1,q1⟩:=q1;subst e1;obtain⟨u1,u2,rfl,rv,zB⟩:∃u1 u2,us=[u1,u2]/\bG v u1/\bG w u2:=by
  cases r1 with
  |cons p q =>
   cases q with
   |cons p' q' =>
    cases q';exact⟨_,_,rfl,p,p'⟩
 refine zaO ?_ (by show 2<=sizeLine;decide)
 have I2:aJ X ah σ H1 { s1 with heap:=s1.heap.push { cls:=.type "tuple",data:=.seq [u1,u2].toArray} }:=I1.gA (t':=s1.toks) λb o e=>zab _ e
 rw[hw];refine zaa (zac ?_)
 show wpAny (model X.prog X.w) X.A (do rule "assign.swapped-stores";let items <-unpackItems (.ref s1.heap.objs.size) 2 none;assignInOrder [λv=>bindName X.env y v,λv=>bindName X.env x v] items.reverse;pure Flow.next) _ _ _
 refine zaa (zcU (zaa (unpackItems_tuple (items:=#[u1,u2]) (I.ok.hd hc) (IsTup.new s1.heap _) λh' QU=>?_)))
 have I3:=I2.gA (h':=h') (t':=s1.toks) λb o e=>QU b o (zaq (zal e)) e
 show wpAny _ _ (assignInOrder [λv=>bindName X.env y v,λv=>bindName X.env x v] [u2,u1] >>= λ_=>pure Flow.next) _ _ _
 refine zaa (zdu (wpAny_bindName (o_ I3 hN hj (.inl hy) zB (λs2 I4=>?_) (.inr hy))))
 refine zdu (wpAny_bindName (o_ I4 hN hi (.inl hx) rv (λs3 I5=>assignInOrder_nil (zac ?_)) (.inr hx)))
 rw[zda _ _ (zbg hij)] at I5;exact⟨_,H1,I5,q1⟩
structure It where
 go:Nat->Hp->Prop
 yld:Nat->Hp->V->Hp->Prop
 stop:Nat->Hp->Prop
noncomputable def qD (X:Cx)(ah:List (Addr×Obj))(H:Hp)(b:Addr):Prop:=
 H b=none/\b≠X.env.locals/\b∉X.fs/\(b∈X.ex\/X.s₀.heap.objs.size<=b)/\(∀x c,X.env.cells.lookup x=some c->c≠b)/\∀p∈X.pn++ah,p.1≠b
theorem aJ.IS (I:aJ X ah σ H s)(hb:s.heap.objs.size<=b)(hn:H' b=none):qD X ah H' b:=by
 refine⟨hn,zca (zan I.lt hb),I.alh hb,.inr (zai I.sz hb),λx c e z=>?_,λp hp z=>?_⟩
 ·obtain⟨v,q⟩:=I.cell x c e
  exact absurd (zan q.lt (by rw[z];exact hb)) (zbd _)
 ·exact absurd (zan (zal (I.DM p hp).1) (by rw[z];exact hb)) (zbd _)
structure Ed (P:Program) (w:World) (K:PySem.W.Frag) (tg:Expr) (J:It) (fp:List Addr) (it:Addr) (tn:Nat->Heap->Prop):Prop where
 mem:it∈fp
 kT:∀i h,tn i h->∀b∈fp,∃o,h.get? b=some o/\∀v,o.data ≠ .cell v
 keep:∀i h h',tn i h->(∀b∈fp,∀o,h.get? b=some o->h'.get? b=some o)->tn i h'
 item:∀(X:Cx),X.prog=P->X.w=w->X.K=K->X.fL=true->∀(i:Nat) (ah:List (Addr×Obj)) (s:Shared) (σ:St) (H:Hp) (E:Value->Shared->Prop),aJ X ah σ H s->(∀b∈fp,qD X ah H b)->tn i s.heap->J.go i H ->
  wpAny (model P w) X.A (pyNext (.ref it)) (λr s1=>∃u,r=some u /\
   wpAny (model P w) X.A (letOwnedTupleGo tg (.ref it) u) (λ_ s2=>∃x H',aJ X ah σ H' s2/\bG x u/\J.yld i H x H'/\tn (i+1) s2.heap/\∀b∈fp,H' b=none) E s1) E s
 done:∀(X:Cx),X.prog=P->X.w=w->X.K=K->X.fL=true->∀(i:Nat) (ah:List (Addr×Obj)) (s:Shared) (σ:St) (H:Hp) (E:Value->Shared->Prop),aJ X ah σ H s->(∀b∈fp,qD X ah H b)->tn i s.heap->J.stop i H ->
  wpAny (model P w) X.A (pyNext (.ref it)) (λr s1=>r=none/\aJ X ah σ H s1) E s
 self:∀(A:Around) (i:Nat) (s:Shared) (Q:Value->Shared->Prop) (E:Value->Shared->Prop),tn i s.heap->Q (.ref it) s->wpAny (model P w) A (pyIter (.ref it)) Q E s
noncomputable abbrev TI:=St->Hp->(It->Hp->Prop)->Prop
noncomputable def PIE (X:Cx)(ah:List (Addr×Obj))(σ:St)(tg:Expr)(R:It->Hp->Prop)(itv:Value)(s2:Shared):Prop:=
 ∃(it:Addr) (fp:List Addr) (tn:Nat->Heap->Prop) (J:It) (H':Hp),itv = .ref it/\aJ X ah σ H' s2/\Ed X.prog X.w X.K tg J fp it tn/\tn 0 s2.heap/\(∀b∈fp,qD X ah H' b)/\R J H'
noncomputable def PI (X:Cx)(tg dX:Expr)(wi:TI):Prop:=
 ∀(ah:List (Addr×Obj)) (s:Shared) (σ:St) (H:Hp) (R:It->Hp->Prop),aJ X ah σ H s->wi σ H R ->
  wpAny (model X.prog X.w) X.A (eval dX X.env) (λv s1=>wpAny (model X.prog X.w) X.A (pyIter v) (PIE X ah σ tg R) X.xe s1) X.xe s
theorem GB (ho:s.heap.get? it=some o)(hc:o.cls = .type n)(hd:o.data = .fields vs)
    (hn:["enumerate","zip","dict_itemiterator","dict_reverseitemiterator","odict_iterator","itertools.zip_longest","itertools.pairwise"].contains n=false) (hQ:Q () s):wpAny M A (letOwnedTupleGo tg (.ref it) u) Q E s:=by
  unfold letOwnedTupleGo;cases tg<;>first
    |exact zac hQ
    | (cases u<;>first
        |exact zac hQ
        | (refine zaa (wpAny_load ho ?_)
           rw[hc,hd];show wpAny M A (if (["enumerate","zip","dict_itemiterator","dict_reverseitemiterator","odict_iterator","itertools.zip_longest","itertools.pairwise"].contains n && vs[0]? == some (rawInt _))=true then _ else _) Q E s
           rw[if_neg (by intro h;rw[hn,zbT] at h;cases h)]
           exact zac hQ))
noncomputable def Itl (K:PySem.W.Frag)(a:Addr):It:=
 ⟨λi H=>∃xs x,jC K H a xs/\xs[i]? = some x,λi H x H'=>H'=H/\∀xs,jC K H a xs->xs[i]? = some x,λi H=>∃xs,jC K H a xs/\xs.length<=i⟩
noncomputable def Itt (K:PySem.W.Frag)(a:Addr):It:=
 ⟨λi H=>∃xs x,nJ K H a xs/\xs[i]? = some x,λi H x H'=>H'=H/\∀xs,nJ K H a xs->xs[i]? = some x,λi H=>∃xs,nJ K H a xs/\xs.length<=i⟩
noncomputable def Itr (lo:Int)(n:Nat):It:=⟨λi _=>i<n,λi H x H'=>H'=H/\x = .int (lo+i),λi _=>n<=i⟩
theorem IT {P:Program}{w:World}{K:PySem.W.Frag}{tg:Expr}(a it:Addr):Ed P w K tg (Itl K a) [it] it (λi h=>h.IsListIter it a i) where
 mem:=by simp
 kT:=λi h st b hb=>by
  have e:b=it:=by simpa using hb
  subst e;obtain⟨o,e,c,d⟩:=st;exact⟨o,e,λv z=>by rw[d] at z;cases z⟩
 keep:=λi h h' st k=>st.at λo e=>k it (by simp) o e
 item:=by
  intro X hP hw hK hc i ah s σ H E I hf st hg;subst hP hw hK;obtain⟨xs,x,hq,hx⟩:=hg;obtain⟨aI,rv,p,hz⟩:=I.list hq;obtain⟨u,hu,ru⟩:=rv.get hx;obtain⟨f0,f1,f2,f3,f4,f5⟩:=hf it (by simp)
  refine wpAny_pyNext_list_item st p.isList (x:=u) (by simpa using hu) λh' IU sb=>?_
  have I1:aJ X ah σ H {s with heap:=h' }:=I.kR (t':=s.toks) (λb o hb e=>(sb.2 b hb).trans e) f0 f1 f3 f4 f5
  obtain⟨o,e,c,d⟩:=id IU;exact⟨u,rfl,GB (s:={s with heap:=h' }) e c d (by decide) ⟨x,H,I1,ru,⟨rfl,λys hy=>by rw[I.Bj hy hq];exact hx⟩,IU,λb hb=>(hf b hb).1⟩⟩
 done:=by
  intro X hP hw hK hc i ah s σ H E I hf st hg;subst hP hw hK;obtain⟨xs,hq,hx⟩:=hg;obtain⟨aI,rv,p,hz⟩:=I.list hq;obtain⟨f0,f1,f2,f3,f4,f5⟩:=hf it (by simp)
  have hl:=rv.length;exact wpAny_pyNext_list_end (I.ok.hd hc) st p.isList (by simp;omega) λh' eb=>⟨rfl,I.kR (t':=s.toks) (λb o hb e=>eb b o hb e) f0 f1 f3 f4 f5⟩
 self:=λ_ _ _ _ _ st h=>wpAny_pyIter_listiter st h
theorem Ef {P:Program}{w:World}{K:PySem.W.Frag}{tg:Expr}(a it:Addr):Ed P w K tg (Itt K a) [it] it (λi h=>h.IsTupleIter it a i) where
 mem:=by simp
 kT:=λi h st b hb=>by
  have e:b=it:=by simpa using hb
  subst e;obtain⟨o,e,c,d⟩:=st;exact⟨o,e,λv z=>by rw[d] at z;cases z⟩
 keep:=λi h h' st k=>st.at λo e=>k it (by simp) o e
 item:=by
  intro X hP hw hK hc i ah s σ H E I hf st hg;subst hP hw hK;obtain⟨xs,x,hq,hx⟩:=hg;obtain⟨aI,rv,p,hz⟩:=I.fj hq;obtain⟨u,hu,ru⟩:=rv.get hx;obtain⟨f0,f1,f2,f3,f4,f5⟩:=hf it (by simp)
  refine wpAny_pyNext_tuple_item st (show s.heap.IsTuple a aI.toArray from p) (x:=u) (by simpa using hu) λh' IU sb=>?_
  have I1:aJ X ah σ H {s with heap:=h' }:=I.kR (t':=s.toks) (λb o hb e=>(sb.2 b hb).trans e) f0 f1 f3 f4 f5
  obtain⟨o,e,c,d⟩:=id IU;exact⟨u,rfl,GB (s:={s with heap:=h' }) e c d (by decide) ⟨x,H,I1,ru,⟨rfl,λys hy=>by rw[I.xR hy hq];exact hx⟩,IU,λb hb=>(hf b hb).1⟩⟩
 done:=by
  intro X hP hw hK hc i ah s σ H E I hf st hg;subst hP hw hK;obtain⟨xs,hq,hx⟩:=hg;obtain⟨aI,rv,p,hz⟩:=I.fj hq;obtain⟨f0,f1,f2,f3,f4,f5⟩:=hf it (by simp)
  have hl:=rv.length;exact wpAny_pyNext_tuple_end (I.ok.hd hc) st (show s.heap.IsTuple a aI.toArray from p) (by simp;omega) λh' eb=>⟨rfl,I.kR (t':=s.toks) (λb o hb e=>eb b o hb e) f0 f1 f3 f4 f5⟩
 self:=λ_ _ _ _ _ st h=>wpAny_pyIter_tupleiter st h
theorem Eg {P:Program}{w:World}{K:PySem.W.Frag}{tg:Expr}(it:Addr)(lo:Int)(n:Nat):Ed P w K tg (Itr lo n) [it] it (λi h=>IsRangeIter h it (lo+(i:Nat) * 1) ((n:Int) - (i:Nat)) 1) where
 mem:=by simp
 kT:=λi h st b hb=>by
  have e:b=it:=by simpa using hb
  subst e;exact⟨_,st,λv z=>by
   have z':Data.fields _=Data.cell v:=z
   cases z'⟩
 keep:=λi h h' st k=>k it (by simp) _ st
 item:=by
  intro X hP hw hK hc i ah s σ H E I hf st hg;subst hP hw hK;obtain⟨f0,f1,f2,f3,f4,f5⟩:=hf it (by simp)
  have W:=Walks.range (prog:=X.prog) (w:=X.w) (I.ok.hd hc) it lo 1 n
  refine W.item i s _ _ hg st λv h' tk hv IU kk=>?_
  obtain⟨t,rfl⟩:=hv;have I1:aJ X ah σ H {s with heap:=h',toks:=tk}:=I.kR (λb o hb e=>kk b o (by simpa using hb) e) f0 f1 f3 f4 f5
  refine⟨_,rfl,GB (s:={s with heap:=h',toks:=tk}) (n:= "range_iterator") IU rfl rfl (by decide) ⟨.int (lo+i),H,I1,⟨t,?_⟩,⟨rfl,rfl⟩,IU,λb hb=>(hf b hb).1⟩⟩
  rw[Int.mul_one]
 done:=by
  intro X hP hw hK hc i ah s σ H E I hf st hg;subst hP hw hK;obtain⟨f0,f1,f2,f3,f4,f5⟩:=hf it (by simp)
  exact wpAny_pyNext_range_end (I.ok.hd hc) st (by have:n<=i:=hg;omega) λh' eb=>⟨rfl,I.kR (t':=s.toks) (λb o hb e=>eb b o hb e) f0 f1 f3 f4 f5⟩
 self:=λ_ _ _ _ _ st h=>wpAny_pyIter_rangeiter st h
noncomputable def agb (K:PySem.W.Frag)(tl:TE):TI:=λσ H R=>tl σ H λx H1=>∃a,x = .ref a/\(∃xs,jC K H1 a xs)/\R (Itl K a) H1
noncomputable def alB (K:PySem.W.Frag)(tl:TE):TI:=λσ H R=>tl σ H λx H1=>∃a,x = .ref a/\(∃xs,nJ K H1 a xs)/\R (Itt K a) H1
theorem Rb {l:Expr}{tl:TE}(hl:PE X l tl):PI X tg l (agb X.K tl):=by
 intro ah s σ H R I h;refine cM (hl ah s σ H _ I h) λv s1 ⟨x,H1,I1,r1,q1⟩=>?_
 obtain⟨a,e,⟨xs,hq⟩,q⟩:=q1
 subst e;cases r1;obtain⟨aI,rv,p,hz⟩:=I1.list hq;refine zcj p.isList ?_
 refine⟨s1.heap.objs.size,[s1.heap.objs.size],_,_,H1,rfl,I1.gA (t':=s1.toks) λb o e=>zab _ e,IT a _,⟨_,zao _ rfl,rfl,rfl⟩,λb hb=>?_,q⟩
 have e:b=s1.heap.objs.size:=by simpa using hb
 subst e;exact I1.IS (zaf _) (I1.cA.fresh (zaf _))
theorem ZR {l:Expr}{tl:TE}(hl:PE X l tl):PI X tg l (alB X.K tl):=by
 intro ah s σ H R I h;refine cM (hl ah s σ H _ I h) λv s1 ⟨x,H1,I1,r1,q1⟩=>?_
 obtain⟨a,e,⟨xs,hq⟩,q⟩:=q1
 subst e;cases r1;obtain⟨aI,rv,p,hz⟩:=I1.fj hq;refine zdv (show s1.heap.IsTuple a aI.toArray from p) ?_
 refine⟨s1.heap.objs.size,[s1.heap.objs.size],_,_,H1,rfl,I1.gA (t':=s1.toks) λb o e=>zab _ e,Ef a _,⟨_,zao _ rfl,rfl,rfl⟩,λb hb=>?_,q⟩
 have e:b=s1.heap.objs.size:=by simpa using hb
 subst e;exact I1.IS (zaf _) (I1.cA.fresh (zaf _))
theorem Lp {ah:List (Addr×Obj)}{σ:St}{H:Hp}{s:Shared}{R:It->Hp->Prop}{E:Value->Shared->Prop}{lo hi:Int}{t u v:Tok}{tk:Nat}(I:aJ X ah σ H s)(h1: -(2 ^ 62)<=lo)(h2:lo<2 ^ 62)(h3: -(2 ^ 62)<=hi)(h4:hi<2 ^ 62)
  (q:R (Itr lo (hi - lo).toNat) H):wpAny (model X.prog X.w) X.A (pyIter (.ref s.heap.objs.size)) (PIE X ah σ tg R) E { s with heap:=s.heap.push { cls:=.type "range",data:=.fields #[.int lo t,.int hi u,.int 1 v]},toks:=tk}:=by
 refine wpAny_pyIter_range (IsRange.new ..) (small_one h1 h2 h3 h4) ?_
 have I1:aJ X ah σ H { s with heap:=s.heap.push { cls:=.type "range",data:=.fields #[.int lo t,.int hi u,.int 1 v]},toks:=tk}:=I.gA λb o e=>zab _ e
 refine⟨(s.heap.push { cls:=.type "range",data:=.fields #[.int lo t,.int hi u,.int 1 v]}).objs.size,[(s.heap.push { cls:=.type "range",data:=.fields #[.int lo t,.int hi u,.int 1 v]}).objs.size],_,_,H,rfl,
  I1.gA (t':=tk) λb o e=>zab _ e,Eg _ lo (hi - lo).toNat,?_,λb hb=>?_,q⟩
 ·have e1:lo+((0:Nat):Int) * 1=lo:=by simp
  have e2:(((hi - lo).toNat:Nat):Int) - ((0:Nat):Int)=Builtin.Range.rangeSize lo hi 1:=by rw[rangeSize_one];split<;>omega
  show IsRangeIter _ _ (lo+((0:Nat):Int) * 1) ((((hi - lo).toNat:Nat):Int) - ((0:Nat):Int)) 1
  rw[e1,e2];exact zao _ rfl
 ·have e:b=(s.heap.push { cls:=.type "range",data:=.fields #[.int lo t,.int hi u,.int 1 v]}).objs.size:=by simpa using hb
  subst e;exact I1.IS (zaf _) (I1.cA.fresh (zaf _))
noncomputable def agc (ta:TA):TI:=λσ H R=>ta σ H λvs H1=>∃j:Int,vs=[.int j] /\ -(2 ^ 62)<=j/\j<2 ^ 62/\R (Itr 0 j.toNat) H1
theorem IV {a:Expr}{ta:TA}{p pos:Pos}(hg:Gl X "range")(hm:X.mg "range"=none)(ha:PA X [a] ta)(hs:starEach [a] X.env=[(false,eval a X.env)]:=by rfl):PI X tg (.Call (.Name "range" p) [a] [] pos) (agc ta):=by
 intro ah s σ H R I h;refine Call_ (tH I hg hm boot_range (zcF (cM (ha pos ah s σ H _ I h) λus s1 ⟨vs,H1,I1,r1,q1⟩=>?_) hs rfl))
 obtain⟨j,e,q1,q2,q⟩:=q1;subst e;cases r1 with
 |cons r rr =>
  cases rr;obtain⟨t,rfl⟩:=r;exact call_range_1 (Lp I1 (by omega) (by omega) q1 q2 (by simpa using q))
noncomputable def alC (wi:TI)(g:TG)(tb:TS):TS:=λD σ H=>wi σ H λJ H1=>∃W:Nat->Nat->St->Hp->Prop,(∃m,W 0 m σ H1)/\∀i m σ H,W i m σ H ->
 (J.stop i H/\D.nx σ H)\/(J.go i H/\∃N:St->Hp->Prop,(∀fm H',N fm H'->∃m',m' < m/\W (i+1) m' fm H')/\∀x H',J.yld i H x H'->g x σ H' λA9 H2=>tb {D with nx:=N,ct:=N,bk:=D.nx} A9 H2)
noncomputable def tL (fp:List Addr)(h:Heap):List (Addr×Obj):=fp.filterMap λb=>(h.get? b).map λo=>(b,o)
theorem kU (hb:b∈fp)(e:h.get? b=some o):(b,o)∈tL fp h:=List.mem_filterMap.mpr ⟨b,hb,by rw[e];rfl⟩
theorem IW (hp:p∈tL fp h):p.1∈fp/\h.get? p.1=some p.2:=by
 obtain⟨b,hb,e⟩:=List.mem_filterMap.mp hp;cases q:h.get? b with
 |none=>rw[q] at e;cases e
 |some o =>
  rw[q] at e;have e':(b,o)=p:=zav e
  subst e';exact⟨hb,q⟩
theorem aJ.Lq (I:aJ X ah σ H s)(hf:∀b∈fp,qD X ah H b)(ho:∀b∈fp,∃o,s.heap.get? b=some o/\∀v,o.data ≠ .cell v):aJ X (ah++tL fp s.heap) σ H s:=
 I.Gv λp hp=>(zbC.mp hp).elim (λz=>I.DM p (zaM _ z)) λz=>by
  obtain⟨hb,e⟩:=IW z;obtain⟨f0,f1,f2,_⟩:=hf p.1 hb;obtain⟨o,e',d⟩:=ho p.1 hb;rw[e] at e';cases e'
  exact⟨e,f0,f1,f2,d⟩
theorem aJ.pe (I:aJ X (ah++pl) σ H s):aJ X ah σ H s:=I.Gv λp hp=>I.DM p (zaM _ (zby _ hp))
theorem ZS (hp:PassesOwn (model X.prog X.w) X.A X.env X.xe)(hc:X.fL=true)(hi:PI X tg dX wi)(hg:PG X tg g)(hb:xQ X body tb)
  (hs:∀x,foldedSetIterable dX X.env x=pure x:=by intro _;rfl):PS X (.For tg dX body [] pos) (alC wi g tb):=by
 intro ah s σ H D I h;refine wpAny_For (cM (hi ah s σ H _ I h) λv s1 h1=>cM h1 λitv s2 h2=>?_) hs
 obtain⟨it,fp,tn,J,H2,e,I2,T,st2,f2,W,⟨m0,w0⟩,Lr⟩:=h2
 subst e;-- ald aoK true of xN ZT Rc ako xN Q2
 have Eh:∀{H':Hp},(∀b∈fp,H' b=none)->∀b∈fp,qD X ah H' b:=λhn b hb=>⟨hn b hb,(f2 b hb).2⟩
 refine codeAny_forLoop_any (λn s'=>∃i fm H',aJ X ah fm H' s'/\tn i s'.heap/\(∀b∈fp,H' b=none)/\W i n fm H') ?_ m0 ⟨0,σ,H2,I2,st2,λb hb=>(f2 b hb).1,w0⟩
 rintro n s3 ⟨i,σ3,H3,I3,st3,fr3,w3⟩
 rcases Lr i n σ3 H3 w3 with⟨stop,qn⟩|⟨go,N,hN,sr⟩
 ·refine zcL hp (cM (T.done X rfl rfl rfl hc i ah s3 σ3 H3 X.xe I3 (Eh fr3) st3 stop) λr s4 ⟨hr,I4⟩=>?_)
  subst hr;exact zcK ⟨σ3,H3,I4,qn⟩
 ·refine zcL hp (cM (T.item X rfl rfl rfl hc i ah s3 σ3 H3 X.xe I3 (Eh fr3) st3 go) λr s4 ⟨u,hr,h4⟩=>?_)
  subst hr;refine zcL hp (cM h4 λ_ s5 ⟨x,H5,I5,r5,y5,st5,fr5⟩=>?_)
  have I5':=I5.Lq (Eh fr5) (T.kT _ _ st5)
  refine zcL hp (cM (hg _ s5 σ3 H5 x u _ I5' r5 (sr x H5 y5)) λ_ s6 ⟨Ls,H6,I6,q6⟩=>?_)
  refine zcL hp (cM (hb _ s6 Ls H6 _ I6 q6) λf s7 q7=>?_)
  have again:∀{Lu:St} {H7:Hp},aJ X (ah++tL fp s5.heap) Lu H7 s7->N Lu H7->∃m,m<n/\∃i fm H',aJ X ah fm H' s7/\tn i s7.heap/\(∀b∈fp,H' b=none)/\W i m fm H':=λ{Lu H7} I7 n7=>by
   obtain⟨m',hm,w7⟩:=hN Lu H7 n7;refine⟨m',hm,i+1,Lu,H7,I7.pe,T.keep _ _ _ st5 λb hb o e=>(I7.DM (b,o) (zaM _ (zaM _ (kU hb e)))).1,λb hb=>?_,w7⟩
   obtain⟨o,e,d⟩:=T.kT _ _ st5 b hb;exact (I7.DM (b,o) (zaM _ (zaM _ (kU hb e)))).2.1
  cases f with
  |next=>obtain⟨Lu,H7,I7,n7⟩:=q7;exact again I7 n7
  |cont=>obtain⟨Lu,H7,I7,n7⟩:=q7;exact again I7 n7
  |brk=>obtain⟨Lu,H7,I7,q7⟩:=q7;exact⟨Lu,H7,I7.pe,q7⟩
  |ret v=>obtain⟨x7,Lu,H7,I7,r7,q7⟩:=q7;exact⟨x7,Lu,H7,I7.pe,r7,q7⟩
noncomputable abbrev R2:=V->V->Hp->VK->Prop
noncomputable def kQ (X:Cx)(f:Value->Value->Sem Value)(r:R2):Prop:=
 ∀(ah:List (Addr×Obj)) (s:Shared) (σ:St) (H:Hp) (x y:V) (v u:Value) (Q:VK),aJ X ah σ H s->bG x v->bG y u->r x y H Q ->
  wpAny (model X.prog X.w) X.A (f v u) (EP X ah σ Q) X.xe s
noncomputable def UnR (X:Cx)(f:Value->Sem Value)(r:V->Hp->VK->Prop):Prop:=
 ∀(ah:List (Addr×Obj)) (s:Shared) (σ:St) (H:Hp) (x:V) (v:Value) (Q:VK),aJ X ah σ H s->bG x v->r x H Q ->
  wpAny (model X.prog X.w) X.A (f v) (EP X ah σ Q) X.xe s
noncomputable def jI (X:Cx)(f:Value)(r:List V->Hp->VK->Prop):Prop:=
 ∀(ah:List (Addr×Obj)) (s:Shared) (σ:St) (H:Hp) (xs:List V) (us:List Value) (Q:VK),aJ X ah σ H s->bA xs us->r xs H Q ->
  wpAny (model X.prog X.w) X.A (call f us) (EP X ah σ Q) X.xe s
noncomputable def ZU (r:R2)(ta tb:TE):TE:=λσ H Q=>ta σ H λx H1=>tb σ H1 λy H2=>r x y H2 Q
noncomputable def tUn (r:V->Hp->VK->Prop)(ta:TE):TE:=λσ H Q=>ta σ H λx H1=>r x H1 Q
noncomputable def rI (C:Int->Int->Prop)(g:Int->Int->V):R2:=λx y H Q=>∃i j,x = .int i/\y = .int j/\C i j/\Q (g i j) H
noncomputable def Rf (g:Int->Int->V):R2:=λx y H Q=>∃i j,x = .int i/\y = .int j/\Q (g i j) H
noncomputable def rU (g:Int->V):V->Hp->VK->Prop:=λx H Q=>∃i,x = .int i/\Q (g i) H
theorem ZV (ha:PE X a ta)(hb:PE X b tb){ah:List (Addr×Obj)}{s:Shared}{σ:St}{H:Hp}{R:V->V->Hp->Prop}(I:aJ X ah σ H s)
  (h:ta σ H λx H1=>tb σ H1 λy H2=>R x y H2) {Q:Value->Shared->Prop} {f:Value->Value->Sem Value}
  (hf:∀v u s2 x y H2,aJ X ah σ H2 s2->bG x v->bG y u->R x y H2->wpAny (model X.prog X.w) X.A (f v u) Q X.xe s2):
  wpAny (model X.prog X.w) X.A (eval a X.env) (λv cN=>wpAny (model X.prog X.w) X.A (eval b X.env) (λu mQ=>wpAny (model X.prog X.w) X.A (f v u) Q X.xe mQ) X.xe cN) X.xe s:=by
 refine cM (ha ah s σ H _ I h) λv s1 ⟨x,H1,I1,r1,q1⟩=>?_
 refine cM (hb ah s1 σ H1 _ I1 q1) λu s2 ⟨y,H2,I2,r2,q2⟩=>?_
 exact hf v u s2 x y H2 I2 r1 r2 q2
theorem agg {op:Operator}{r:R2}(ho:kQ X (binaryOp op) r)(ha:PE X a ta)(hb:PE X b tb):PE X (.BinOp a op b pos) (ZU r ta tb):=by
 intro ah s σ H Q I h;exact wpAny_BinOp (ZV ha hb I h λv u s2 x y H2 I2 rx ry q=>ho ah s2 σ H2 x y v u Q I2 rx ry q)
theorem agh (ho:UnR X (unaryOp op) r)(ha:PE X a ta):PE X (.UnaryOp op a pos) (tUn r ta):=by
 intro ah s σ H Q I h;exact UnaryOp_ (cM (ha ah s σ H _ I h) λv s1 ⟨x,H1,I1,r1,q1⟩=>ho ah s1 σ H1 x v Q I1 r1 q1)
theorem opI {f:Value->Value->Sem Value}{C:Int->Int->Prop}{g:Int->Int->Int}
  (rule:∀(i j:Int) (t u:Tok) (s:Shared) (Q:Value->Shared->Prop) (E:Value->Shared->Prop),C i j->Q (.int (g i j) s.toks) {s with toks:=s.toks+1}->wpAny (model X.prog X.w) X.A (f (.int i t) (.int j u)) Q E s):
  kQ X f (rI C λi j=>.int (g i j)):=by
 intro ah s σ H x y v u Q I rx ry h;obtain⟨i,j,rfl,rfl,hc,q⟩:=h;obtain⟨t,rfl⟩:=rx;obtain⟨t',rfl⟩:=ry;exact rule i j t t' s _ _ hc ⟨.int (g i j),H,I.o8 _,⟨_,rfl⟩,q⟩
theorem agi {f:Value->Value->Sem Value}{g:Int->Int->Int}
  (rule:∀(i j:Int) (t u:Tok) (s:Shared) (Q:Value->Shared->Prop) (E:Value->Shared->Prop),Q (.int (g i j) s.toks) {s with toks:=s.toks+1}->wpAny (model X.prog X.w) X.A (f (.int i t) (.int j u)) Q E s):
  kQ X f (Rf λi j=>.int (g i j)):=by
 intro ah s σ H x y v u Q I rx ry h;obtain⟨i,j,rfl,rfl,q⟩:=h;obtain⟨t,rfl⟩:=rx;obtain⟨t',rfl⟩:=ry;exact rule i j t t' s _ _ ⟨.int (g i j),H,I.o8 _,⟨_,rfl⟩,q⟩
theorem Rg {f:Value->Value->Sem Value}{g:Int->Int->Bool}
  (rule:∀(i j:Int) (t u:Tok) (s:Shared) (Q:Value->Shared->Prop) (E:Value->Shared->Prop),Q (.bool (g i j)) s->wpAny (model X.prog X.w) X.A (f (.int i t) (.int j u)) Q E s):
  kQ X f (Rf λi j=>.bl (g i j)):=by
 intro ah s σ H x y v u Q I rx ry h;obtain⟨i,j,rfl,rfl,q⟩:=h;obtain⟨t,rfl⟩:=rx;obtain⟨t',rfl⟩:=ry;exact rule i j t t' s _ _ ⟨.bl (g i j),H,I,rfl,q⟩
noncomputable def alE (i j:Int):Prop:=0<j/\j<1073741824
noncomputable def ZW (i j:Int):Prop:=(-(2 ^ 64)<i/\i<2 ^ 64)\/(-(2 ^ 64)<j/\j<2 ^ 64)
theorem ZW.ok (h:ZW i j):IntMulOk i j:=by
 rcases h with⟨h1,h2⟩|⟨h1,h2⟩
 ·exact .of_left (intBits_le_64 h1 h2)
 ·exact .of_right (intBits_le_64 h1 h2)
theorem ZX:kQ X (binaryOp .Add) (Rf λi j=>.int (i+j)):=agi λ_ _ _ _ _ _ _ q=>add_int q
theorem ZY:kQ X (binaryOp .Sub) (Rf λi j=>.int (i - j)):=agi λ_ _ _ _ _ _ _ q=>sub_int q
theorem ZZ:kQ X (binaryOp .Mult) (rI ZW λi j=>.int (i * j)):=opI λ_ _ _ _ _ _ _ hc q=>mul_int q hc.ok
theorem Rh:kQ X (binaryOp .FloorDiv) (rI alE λi j=>.int (i / j)):=opI λi j _ _ _ _ _ hc q=>by
 have h1:(0:Int)<j:=hc.1
 have h2:j<1073741824:=hc.2
 exact floordiv_int (by omega) (by rw[Int.fdiv_eq_ediv_of_nonneg i (by omega)];exact q) (.inl (PyProof.noPylong_small (by omega)))
theorem Z0:kQ X (binaryOp .Mod) (rI (λ_ j=>0<j) λi j=>.int (i % j)):=opI λi j _ _ _ _ _ hc q=>by
 have h1:(0:Int)<j:=hc
 exact mod_int' (by omega) (by rw[Int.fmod_eq_emod_of_nonneg i (by omega)];exact q)
theorem unI {f:Value->Sem Value}{g:Int->Int}
  (rule:∀(i:Int) (t:Tok) (s:Shared) (Q:Value->Shared->Prop) (E:Value->Shared->Prop),Q (.int (g i) s.toks) {s with toks:=s.toks+1}->wpAny (model X.prog X.w) X.A (f (.int i t)) Q E s):
  UnR X f (rU λi=>.int (g i)):=by
 intro ah s σ H x v Q I rx h;obtain⟨i,rfl,q⟩:=h;obtain⟨t,rfl⟩:=rx;exact rule i t s _ _ ⟨.int (g i),H,I.o8 _,⟨_,rfl⟩,q⟩
theorem Z1:UnR X (unaryOp .USub) (rU λi=>.int (-i)):=unI λ_ _ _ _ _ q=>neg_int q
noncomputable def Z3:V->V->Bool
 |.bz,.bz=>true|.bz,.int _=>true|.int _,.bz=>true|.bz,.bl _=>true|.bl _,.bz=>true|.bz,.str _=>true|.str _,.bz=>true
 |.int _,.int _=>true|.bl _,.bl _=>true|.str _,.str _=>true|.K0 _,.K0 _=>true
 |.int _,.str _=>true|.str _,.int _=>true|.bl _,.str _=>true|.str _,.bl _=>true
 |_,_=>false
noncomputable def rEq:R2:=λx y H Q=>Z3 x y=true/\Q (.bl (decide (x=y))) H
noncomputable def rNe:R2:=λx y H Q=>Z3 x y=true/\Q (.bl (!decide (x=y))) H
theorem GC:decide (V.int i=V.int j)=(i == j):=by
 rw[zaU];simp
theorem Ei:decide (V.bl i=V.bl j)=(i == j):=by
 rw[zaU];simp
theorem GD:decide (V.str i=V.str j)=(i == j):=by
 rw[zaU];simp
theorem GF:decide (V.K0 i=V.K0 j)=(i.toList == j.toList):=by
 rw[zaU];cases i;cases j;simp
theorem bR (I:aJ X ah σ H s)(q:Q (.bl k) H)(e:k=k'):EP X ah σ Q (.bool k') s:=by
 subst e;exact⟨.bl k,H,I,rfl,q⟩
theorem agj:kQ X (compareOp .Eq) rEq:=by
 intro ah s σ H x y v u Q I rx ry h;obtain⟨hs,q⟩:=h;cases x with
 |bz =>
  cases rx;cases y with
  |bz=>cases ry;exact PySem.EqNone.eq_none_none (bR I q (by simp))
  |bl j=>cases ry;exact PySem.EqNone.eq_none_bool (bR I q (by simp))
  |int j=>obtain⟨t',rfl⟩:=ry;exact PySem.EqNone.eq_none_int (bR I q (by simp))
  |str j=>obtain⟨t',rfl⟩:=ry;exact PySem.EqNone.eq_none_str (bR I q (by simp))
  |_=>exact absurd (show false=true from hs) zah
 |bl i =>
  cases rx;cases y with
  |bz=>cases ry;exact PySem.EqNone.eq_bool_none (bR I q (by simp))
  |bl j=>cases ry;exact eq_bool (bR I q Ei)
  |str j=>obtain⟨t',rfl⟩:=ry;exact PySem.EqMixed.eq_bool_str (bR I q (by simp))
  |_=>exact absurd (show false=true from hs) zah
 |int i =>
  obtain⟨t,rfl⟩:=rx;cases y with
  |bz=>cases ry;exact PySem.EqNone.eq_int_none (bR I q (by simp))
  |int j=>obtain⟨t',rfl⟩:=ry;exact eq_int (bR I q GC)
  |str j=>obtain⟨t',rfl⟩:=ry;exact PySem.EqMixed.eq_int_str (bR I q (by simp))
  |_=>exact absurd (show false=true from hs) zah
 |str i =>
  obtain⟨t,rfl⟩:=rx;cases y with
  |bz=>cases ry;exact PySem.EqNone.eq_str_none (bR I q (by simp))
  |bl j=>cases ry;exact PySem.EqMixed.eq_str_bool (bR I q (by simp))
  |int j=>obtain⟨t',rfl⟩:=ry;exact PySem.EqMixed.eq_str_int (bR I q (by simp))
  |str j=>obtain⟨t',rfl⟩:=ry;exact eq_str (bR I q GD)
  |_=>exact absurd (show false=true from hs) zah
 |K0 i =>
  obtain⟨t,rfl⟩:=rx;cases y with
  |K0 j=>obtain⟨t',rfl⟩:=ry;exact PySem.W.eq_bytes (bR I q GF)
  |_=>exact absurd (show false=true from hs) zah
 |_=>cases y<;>exact absurd (show false=true from hs) zah
theorem agk:kQ X (compareOp .NotEq) rNe:=by
 intro ah s σ H x y v u Q I rx ry h;obtain⟨hs,q⟩:=h;cases x with
 |bz =>
  cases rx;cases y with
  |bz=>cases ry;exact PySem.EqNone.ne_none_none (bR I q (by simp))
  |bl j=>cases ry;exact PySem.EqNone.ne_none_bool (bR I q (by simp))
  |int j=>obtain⟨t',rfl⟩:=ry;exact PySem.EqNone.ne_none_int (bR I q (by simp))
  |str j=>obtain⟨t',rfl⟩:=ry;exact PySem.EqNone.ne_none_str (bR I q (by simp))
  |_=>exact absurd (show false=true from hs) zah
 |bl i =>
  cases rx;cases y with
  |bz=>cases ry;exact PySem.EqNone.ne_bool_none (bR I q (by simp))
  |bl j=>cases ry;exact ne_bool (bR I q (congrArg not Ei))
  |str j=>obtain⟨t',rfl⟩:=ry;exact PySem.EqMixed.ne_bool_str (bR I q (by simp))
  |_=>exact absurd (show false=true from hs) zah
 |int i =>
  obtain⟨t,rfl⟩:=rx;cases y with
  |bz=>cases ry;exact PySem.EqNone.ne_int_none (bR I q (by simp))
  |int j=>obtain⟨t',rfl⟩:=ry;exact ne_int (bR I q (congrArg not GC))
  |str j=>obtain⟨t',rfl⟩:=ry;exact PySem.EqMixed.ne_int_str (bR I q (by simp))
  |_=>exact absurd (show false=true from hs) zah
 |str i =>
  obtain⟨t,rfl⟩:=rx;cases y with
  |bz=>cases ry;exact PySem.EqNone.ne_str_none (bR I q (by simp))
  |bl j=>cases ry;exact PySem.EqMixed.ne_str_bool (bR I q (by simp))
  |int j=>obtain⟨t',rfl⟩:=ry;exact PySem.EqMixed.ne_str_int (bR I q (by simp))
  |str j=>obtain⟨t',rfl⟩:=ry;exact ne_str (bR I q (congrArg not GD))
  |_=>exact absurd (show false=true from hs) zah
 |K0 i =>
  obtain⟨t,rfl⟩:=rx;cases y with
  |K0 j=>obtain⟨t',rfl⟩:=ry;exact PySem.W.ne_bytes (bR I q (congrArg not GF))
  |_=>exact absurd (show false=true from hs) zah
 |_=>cases y<;>exact absurd (show false=true from hs) zah
theorem agl:kQ X (compareOp .Lt) (Rf λi j=>.bl (decide (i<j))):=Rg λ_ _ _ _ _ _ _ q=>lt_int q
theorem agm:kQ X (compareOp .LtE) (Rf λi j=>.bl (decide (i<=j))):=Rg λ_ _ _ _ _ _ _ q=>le_int q
theorem agn:kQ X (compareOp .Gt) (Rf λi j=>.bl (decide (j<i))):=Rg λ_ _ _ _ _ _ _ q=>gt_int q
theorem ago:kQ X (compareOp .GtE) (Rf λi j=>.bl (decide (j<=i))):=Rg λ_ _ _ _ _ _ _ q=>ge_int q
theorem IX:kQ X (compareOp .In) (λx y H Q=>∃i j,x = .str i/\y = .str j/\Q (.bl (!(Builtin.Str.occurrences j i 0 j.length 1).isEmpty)) H):=by
 intro ah s σ H x y v u Q I rx ry h;obtain⟨i,j,rfl,rfl,q⟩:=h;obtain⟨t,rfl⟩:=rx;obtain⟨t',rfl⟩:=ry;exact in_str (bR I q rfl)
theorem Z4:kQ X (compareOp .Is) (λx y H Q=>y = .bz/\Q (.bl (decide (x = .bz))) H):=by
 intro ah s σ H x y v u Q I rx ry h;obtain⟨rfl,q⟩:=h;cases ry;refine is_none_gen (bR I q ?_)
 cases x<;>first
  | (cases rx;rfl)
  | (obtain⟨t,rfl⟩:=rx;rfl)
theorem Ri:kQ X (compareOp .IsNot) (λx y H Q=>y = .bz/\Q (.bl (!decide (x = .bz))) H):=by
 intro ah s σ H x y v u Q I rx ry h;obtain⟨rfl,q⟩:=h;cases ry;refine isnot_none_gen (bR I q ?_)
 cases x<;>first
  | (cases rx;rfl)
  | (obtain⟨t,rfl⟩:=rx;rfl)
theorem jT (b:Expr)(h:op ≠ .In:=by decide)(h2:op ≠ .NotIn:=by decide):behindInMarks op b=false:=by
 have e1:(op == CmpOp.In)=false:=by cases op<;>first|rfl|exact absurd rfl h
 have e2:(op == CmpOp.NotIn)=false:=by cases op<;>first|rfl|exact absurd rfl h2
 cases b<;>simp[behindInMarks,e1,e2]
theorem Rj (ho:kQ X (compareOp op) r)(ha:PE X a ta)(hb:PE X b tb)(hm:behindInMarks op b=false):PE X (.Compare a [op] [b] pos) (ZU r ta tb):=by
 intro ah s σ H Q I h;exact wpAny_Compare1 (ZV ha hb I h λv u s2 x y H2 I2 rx ry q=>ho ah s2 σ H2 x y v u Q I2 rx ry q) hm
noncomputable def VG (t:TE):TT:=λσ H Q=>t σ H λx H'=>∃k,x = .bl k/\Q k H'
theorem Rl (ho:kQ X (compareOp op) r)(ha:PE X a ta)(hb:PE X b tb)(hm:behindInMarks op b=false):PT X (.Compare a [op] [b] pos) (VG (ZU r ta tb)):=by
 intro ah s σ H Q I h;refine wpAny_isTrue_Compare1 (cM (ha ah s σ H _ I h) λv s1 ⟨x,H1,I1,r1,q1⟩=>cM (hb ah s1 σ H1 _ I1 q1) λu s2 ⟨y,H2,I2,r2,q2⟩ =>
  cM (ho ah s2 σ H2 x y v u _ I2 r1 r2 q2) λc s3 ⟨z,H3,I3,r3,k,e,q3⟩=>?_) hm
 subst e;cases r3;exact zbc ⟨H3,I3,q3⟩
noncomputable def Ej (r r':R2)(ta tb tc:TE):TE:=λσ H Q=>ta σ H λx H1=>tb σ H1 λy H2=>r x y H2 λz H3=>∃k,z = .bl k /\
 (if k=true then tc σ H3 λw' H4=>r' y w' H4 Q else Q (.bl false) H3)
theorem Lv (ho:kQ X (compareOp op) r)(wO:kQ X (compareOp Lw) r')(ha:PE X a ta)(hb:PE X b tb)(hc:PE X c tc)
  (hm:lastMarks [op,Lw] [b,c]=false:=by with_unfolding_all rfl):PE X (.Compare a [op,Lw] [b,c] pos) (Ej r r' ta tb tc):=by
 intro ah s σ H Q I h;refine Compare_chain (cM (ha ah s σ H _ I h) λv s1 ⟨x,H1,I1,r1,q1⟩=>chain_link (cM (hb ah s1 σ H1 _ I1 q1) λu s2 ⟨y,H2,I2,r2,q2⟩ =>
  cM (ho ah s2 σ H2 x y v u _ I2 r1 r2 q2) λd s3 ⟨z,H3,I3,r3,k,e,q3⟩=>?_)) hm
 subst e;cases r3;refine zbc ?_
 cases k with
 |false=>exact ite_ff ⟨.bl false,H3,I3,rfl,q3⟩
 |true=>exact ite_tt (chain_last (cM (hc ah s3 σ H3 _ I3 q3) λw' s4 ⟨z',H4,I4,r4,q4⟩=>wO ah s4 σ H4 y z' u w' Q I4 r2 r4 q4))
theorem Lx (ho:kQ X (compareOp op) r)(wO:kQ X (compareOp Lw) r')(ha:PE X a ta)(hb:PE X b tb)(hc:PE X c tc)
  (hm:lastMarks [op,Lw] [b,c]=false:=by with_unfolding_all rfl):PT X (.Compare a [op,Lw] [b,c] pos) (VG (Ej r r' ta tb tc)):=by
 intro ah s σ H Q I h;refine isTrue_chain (cM (ha ah s σ H _ I h) λv s1 ⟨x,H1,I1,r1,q1⟩=>test_link (cM (hb ah s1 σ H1 _ I1 q1) λu s2 ⟨y,H2,I2,r2,q2⟩ =>
  cM (ho ah s2 σ H2 x y v u _ I2 r1 r2 q2) λd s3 ⟨z,H3,I3,r3,k,e,q3⟩=>?_)) hm
 subst e;cases r3;refine zbc ?_
 cases k with
 |false =>
  obtain⟨k',e',q'⟩:=q3;cases e';exact ite_ff ⟨H3,I3,q'⟩
 |true =>
  refine ite_tt (test_last (cM (hc ah s3 σ H3 _ I3 q3) λw' s4 ⟨z',H4,I4,r4,q4⟩=>cM (wO ah s4 σ H4 y z' u w' _ I4 r2 r4 q4) λd' s5 ⟨z2,H5,I5,r5,k2,e2,q5⟩=>?_))
  subst e2;cases r5;exact zbc ⟨H5,I5,q5⟩
theorem qE:(sizeLine:Nat)<2 ^ 63:=by rw[zee];decide
theorem Ek:kQ X (binaryOp .Add) (λx y H Q=>∃i j,x = .str i/\y = .str j/\i.length+j.length<=sizeLine/\Q (.str (i++j)) H):=by
 intro ah s σ H x y v u Q I rx ry h;obtain⟨i,j,rfl,rfl,hz,q⟩:=h;obtain⟨t,rfl⟩:=rx;obtain⟨t',rfl⟩:=ry;exact add_str (λt' tk=>⟨.str (i++j),H,I.o8 _,⟨_,rfl⟩,q⟩) hz
theorem oz (r:bA [x] us):∃u,us=[u]/\bG x u:=by
 cases r with
 |cons r1 r2=>cases r2;exact⟨_,rfl,r1⟩
theorem xS:jI X (.type "int") (λxs H Q=>(∃i,xs=[.int i]/\Q (.int i) H)\/∃k,xs=[.bl k]/\Q (.int (if k then 1 else 0)) H):=by
 intro ah s σ H xs us Q I r h;rcases h with⟨i,rfl,q⟩|⟨k,rfl,q⟩
 ·obtain⟨u,rfl,t,rfl⟩:=oz r
  exact call_int_int ⟨.int i,H,I,⟨_,rfl⟩,q⟩
 ·obtain⟨u,rfl,r1⟩:=oz r
  cases r1;exact call_int_bool ⟨.int (if k then 1 else 0),H,I.o8 _,⟨_,rfl⟩,q⟩
structure El (h:Heap) (x dx C:Addr) (mA:Str->Option Value):Prop where
 kT:h.get? x=some (PySem.W.instObj C dx)
 ns:h.Ns1 dx mA
 ne:dx≠x
theorem xT {h:Heap}{dx:Addr}{mA:Str->Option Value}(n:h.Ns1 dx mA):∃od,h.get? dx=some od/\∀name,PySem.W.lookIn name od=some (mA name):=by
 obtain⟨o,es,ep,ho,hd,hk,_,hm⟩:=n;refine⟨o,ho,λname=>?_⟩
 have e:=hm name;unfold nsFind findBy at e;rw[<-Array.find?_toList] at e;unfold PySem.W.lookIn;rw[hd];dsimp only;split
 ·rename_i y q
  rw[q] at e;exact congrArg some e
 ·rename_i q
  rw[q] at e;have a:es.toList.any (·.refKey)=false:=by
   rw[List.any_eq_false];intro y hy;obtain⟨z,t,Lz⟩:=hk y (Array.mem_toList_iff.mp hy)
   simp[DictEntry.refKey,Lz]
  have a':¬ es.toList.any (·.refKey)=true:=by rw[a];exact zah
  rw[if_neg a'];exact congrArg some e
theorem El.Rm (I:El h x dx C mA):∃od,PySem.W.InstAt h x (PySem.W.instObj C dx) C (some od)/\∀name,PySem.W.lookIn name od=some (mA name):=
 let ⟨od,ho,hl⟩:=xT I.ns
 ⟨od,⟨I.kT,rfl,rfl,ho⟩,hl⟩
section
variable {prog:Program}{w:World}{A:Around}{E:Value->Shared->Prop}{s:Shared}{K:PySem.W.Frag}{x dx C f:Addr}{mA:Str->Option Value}{name:Str}{v:Value}
theorem Rn (X:K.In s.heap)(I:El s.heap x dx C mA)(hg:PySem.W.plainGet K C name=true)(hh:PySem.W.hasDictIn K C=true)
  (ha:PySem.W.findIn K (.ref C) name=some none) (hv:mA name=some v) (hv':PySem.W.handedIn v=true) (h:Q v {s with toks:=s.toks+1}):
  wpAny (model prog w) A (getAttr (.ref x) name aqw) Q E s:=by
 obtain⟨od,J,hl⟩:=I.Rm;exact PySem.W.get_value X J (zdr hg).1 (PySem.W.findObj_own hh ha rfl (by rw[hl,hv])) hv' h
theorem LA (X:K.In s.heap)(I:El s.heap x dx C mA)(hg:PySem.W.plainGet K C name=true)
  (hf:PySem.W.findIn K (.ref C) name=some (some (.ref f))) (ht:PySem.W.isFn K (.ref f)=true) (hv:mA name=none) (h:Q (.ref f,[.ref x]) s):
  wpAny (model prog w) A (getMethod (.ref x) name pl) Q E s:=by
 obtain⟨od,J,hl⟩:=I.Rm;exact PySem.W.method_fn X J (zdr hg).1 (zdr hg).2 hf (beq_iff_eq.mp ht) (by show (PySem.W.lookIn name od).map (·.isSome)=some false;rw[hl,hv];rfl) h
theorem Ro (X:K.In s.heap)(I:El s.heap x dx C mA)
  (hs:PySem.W.findIn K (.ref C) "__setattr__"=some (some (.builtin "object.__setattr__"))) (hp:PySem.W.plainOver K C=true) (ht:PySem.W.takerIn K C name=some none) (hh:PySem.W.hasDictIn K C=true)
  (hw:PySem.Within mA ns) (hsz:ns.length<=sizeLine)
  (h:∀h',El h' x dx C (λy=>if y=name then some v else mA y)->Heap.SameBut dx s.heap h'->Q () {s with heap:=h',toks:=s.toks+2}):
  wpAny (model prog w) A (setAttr (.ref x) name v) Q E s:=by
 obtain⟨od,J,hl⟩:=I.Rm;refine zeV X J hs (PySem.W.osa_open (s:={s with toks:=s.toks+1}) (r:=none) X J hp ht λb=>?_)
 obtain⟨cd,hc,VD⟩:=PySem.W.any_some hh;have hx:s.heap.get? x=some ⟨.ref C,some dx,.plain,#[]⟩:=I.kT
 refine zaa (zac (zaa (zaa (zeo hx (zaa (zbG (s:={s with toks:=s.toks+1}) (zcI X hc) ?_))))))
 rw[VD];refine zac (a:=some dx) (zaa (zac (zaa ?_)))
 refine wpAny_nsSet1 (s:={s with toks:=s.toks+1}) I.ns λh' QV K1=>?_
 obtain⟨oD,esD,epD,hoD,hdD,hcD⟩:=QV.count (PySem.Within.cons name v hw)
 refine zaa (zdM hoD (by rw[hdD];exact zdN (zai hcD (by rw[zar];omega))) ?_)
 exact zac (h _ ⟨(K1.2 _ (zbg I.ne)).trans I.kT,QV,I.ne⟩ K1)
theorem LB (X:K.In s.heap)(hm:PySem.W.makesIn K C=true)
  (hi:PySem.W.findIn K (.ref C) "__init__"=some (some (.ref f))) (hf:PySem.W.typeIn K (.ref f)=some (.type "function"))
  (h:codeAny (model prog w) (A.under (.builtin "type.__call__" ⟨.ref C::vs,kw⟩)) (.call (.ref f) ⟨.ref (s.heap.objs.size+1)::vs,kw⟩) (PySem.W.InitBack (s.heap.objs.size+1) R)
   {s with heap:=(s.heap.push PySem.W.emptyDict).push (PySem.W.instObj C s.heap.objs.size)}):
  codeAny (model prog w) A (.call (.ref C) ⟨vs,kw⟩) R s:=by
 obtain⟨hh,g,d,t,os⟩:=s;exact PySem.W.make_core (PySem.W.makes_of X hm) (zdg X hi) (λself=>PySem.W.bind_fn X self hf) (.inl rfl) h
end
noncomputable def gE (f:Str)(v:V):List (Str×V)->List (Str×V)
 |[]=>[(f,v)]
 | (g,x)::r=>if g=f then (g,v)::r else (g,x)::gE f v r
theorem mR (f g:Str)(v:V):∀fs:List (Str×V),(gE f v fs).lookup g=if g=f then some v else fs.lookup g
 |[]=>by
  show List.lookup g [(f,v)]=_
  by_cases h:g=f
  ·have hb:(g == f)=true:=beq_iff_eq.mpr h
   simp only[List.lookup,hb,if_pos h]
  ·have hb:(g == f)=false:=beq_eq_false_iff_ne.mpr h
   simp only[List.lookup,hb,if_neg h]
 | (k,x)::r=>by
  have ih:=mR f g v r;rw[show gE f v ((k,x)::r)=(if k=f then (k,v)::r else (k,x)::gE f v r) from rfl];by_cases hk:k=f
  ·rw[if_pos hk]
   by_cases h:g=k
   ·have hb:(g == k)=true:=beq_iff_eq.mpr h
    simp only[List.lookup,hb,if_pos (h.trans hk)]
   ·have hb:(g == k)=false:=beq_eq_false_iff_ne.mpr h
    simp only[List.lookup,hb,if_neg (λe:g=f=>h (e.trans hk.symm))]
  ·rw[if_neg hk]
   by_cases h:g=k
   ·have hb:(g == k)=true:=beq_iff_eq.mpr h
    simp only[List.lookup,hb,if_neg (λe:g=f=>hk (h.symm.trans e))]
   ·have hb:(g == k)=false:=beq_eq_false_iff_ne.mpr h
    simp only[List.lookup,hb];exact ih
theorem j8 (f:Str)(v:V):∀fs:List (Str×V),f∈(gE f v fs).map (·.1)/\∀g,g∈fs.map (·.1)->g∈(gE f v fs).map (·.1)
 |[]=>⟨by simp[gE],λg h=>by simp at h⟩
 | (k,x)::r=>by
  obtain⟨i1,i2⟩:=j8 f v r;rw[show gE f v ((k,x)::r)=(if k=f then (k,v)::r else (k,x)::gE f v r) from rfl];by_cases hk:k=f
  ·rw[if_pos hk]
   subst hk;exact⟨by simp,λg h=>by simpa using h⟩
  ·rw[if_neg hk]
   refine⟨?_,λg h=>?_⟩
   ·rw[zat]
    exact zaP _ i1
   ·rw[zat] at h ⊢
    rcases zap.mp h with e|e
    ·exact zap.mpr (.inl e)
    ·exact zaP _ (i2 g e)
theorem rC (f:Str)(v:V):∀fs:List (Str×V),(gE f v fs).length<=fs.length+1
 |[]=>by simp[gE]
 | (k,x)::r=>by
  have ih:=rC f v r;rw[show gE f v ((k,x)::r)=(if k=f then (k,v)::r else (k,x)::gE f v r) from rfl];by_cases hk:k=f
  ·rw[if_pos hk,zar,zar];omega
  ·rw[if_neg hk,zar,zar];omega
theorem ji.zC (r:ji (some v) o):∃u,o=some u/\bG v u:=by
 cases o with
 |none=>exact (show False from r).elim
 |some u=>exact⟨u,rfl,r⟩
theorem ji.Rp (r:ji none o):o=none:=by
 cases o with
 |none=>rfl
 |some u=>exact (show False from r).elim
theorem IY (r:bG v u):PySem.W.handedIn u=true:=by
 cases v with
 |bz=>cases (show u=Value.none from r);rfl
 |bl b=>cases (show u=Value.bool b from r);rfl
 |int i=>obtain⟨t,e⟩:=(show ∃t,u=Value.int i t from r);cases e;rfl
 |str x=>obtain⟨t,e⟩:=(show ∃t,u=Value.str x t from r);cases e;rfl
 |K0 b=>obtain⟨t,e⟩:=(show ∃t,u=Value.bytes b t from r);cases e;rfl
 |Zo b=>obtain⟨t,e⟩:=(show ∃t,u=Value.float b t from r);cases e;rfl
 |ref a=>cases (show u=Value.ref a from r);rfl
 |ty n=>cases (show u=Value.type n from r);rfl
theorem sO (cA:oh P w H h)(e:H a=some (.fH C dx fs)):∃mA,El h a dx C mA/\(∀f,ji (fs.lookup f) (mA f))/\PySem.Within mA (fs.map (·.1))/\fs.length<=1000/\H dx=some (.tw a):=by
 obtain⟨d,z,ne,ob,mA,n,r,q⟩:=(show bZ P w H h a (.fH C dx fs) from cA a _ e)
 exact⟨mA,⟨ob,n,ne⟩,r,q,z,d⟩
structure wQ (K:PySem.W.Frag) (C:Addr):Prop where
 pg:PySem.W.plainGet K C Str.empty=true
 hd:PySem.W.hasDictIn K C=true
 po:PySem.W.plainOver K C=true
 sa:PySem.W.findIn K (.ref C) "__setattr__"=some (some (.builtin "object.__setattr__"))
theorem wQ.get {K:PySem.W.Frag}{C:Addr}(c:wQ K C)(f:Str):PySem.W.plainGet K C f=true:=c.pg
noncomputable def cD (K:PySem.W.Frag)(C:Addr)(f:Str):Prop:=PySem.W.findIn K (.ref C) f=some none
theorem cD.agr {K:PySem.W.Frag}{C:Addr}{f:Str}(n:cD K C f):PySem.W.takerIn K C f=some none:=by
 unfold PySem.W.takerIn;rw[show PySem.W.findIn K (.ref C) f=some none from n];rfl
structure dO (K:PySem.W.Frag) (C:Addr) (m:Str) (f:Addr):Prop where
 tM:PySem.W.findIn K (.ref C) m=some (some (.ref f))
 fn:PySem.W.isFn K (.ref f)=true
 kp:PySem.W.keepIn K (.ref f)=true
theorem tN (I:aJ X ah σ H s)(e:H a=some (.fH C dx fs))(c:wQ X.K C)(n:cD X.K C f)(l:fs.lookup f=some v)
  (h:∀u s',aJ X ah σ H s'->bG v u->Q u s'):wpAny (model X.prog X.w) A (getAttr (.ref a) f b) Q E s:=by
 obtain⟨mA,O,r,_,_,_⟩:=sO I.cA e;obtain⟨u,hu,ru⟩:=ji.zC (v:=v) (o:=mA f) (by rw[<-l];exact r f)
 exact Rn I.kO O (c.get f) c.hd n hu (IY ru) (h u _ (I.o8 _) ru)
theorem oM (I:aJ X ah σ H s)(e:H a=some (.fH C dx fs))(c:wQ X.K C)(k:dO X.K C m g)(l:fs.lookup m=none)
  (h:Q (.ref g,[.ref a]) s):wpAny (model X.prog X.w) A (getMethod (.ref a) m pl) Q E s:=by
 obtain⟨mA,O,r,_,_,_⟩:=sO I.cA e;have hn:mA m=none:=ji.Rp (by rw[<-l];exact r m)
 exact LA I.kO O (c.get m) k.tM k.fn hn h
theorem tO (I:aJ X ah σ H s)(e:H a=some (.fH C dx fs))(c:wQ X.K C)(n:cD X.K C f)(hl:fs.length<1000)(ry:bG y u)
  (h:∀s',aJ X ah σ (bu H a (.fH C dx (gE f y fs))) s'->Q () s'):wpAny (model X.prog X.w) A (setAttr (.ref a) f u) Q E s:=by
 obtain⟨mA,O,r,wi,_,ho⟩:=sO I.cA e;have hz:(fs.map (·.1)).length<=sizeLine:=by rw[zad,zee];omega
 refine Ro I.kO O c.sa c.po n.agr c.hd wi hz λh' O' sb=>h _ ?_
 have hd:∃o,h'.get? dx=some o:=let ⟨o,_,_,e',_⟩:=O'.ns;⟨o,e'⟩
 refine I.jH (x:=a) (e:=dx) (by rw[e];exact True.intro) (.inr ho) (λb q hb z=>(sb.2 b hb).trans z) hd ?_
 refine⟨by rw[av O.ne];exact ho,?_,O.ne,O'.kT,_,O'.ns,λg=>?_,λg hg=>?_⟩
 ·have:=rC f y fs;omega
 ·show ji ((gE f y fs).lookup g) (if g=f then some u else mA g)
  rw[mR];by_cases q:g=f
  ·rw[if_pos q,if_pos q];exact ry
  ·rw[if_neg q,if_neg q];exact r g
 ·by_cases q:g=f
  ·rw[q];exact (j8 f y fs).1
  ·refine (j8 f y fs).2 g (wi g λz=>hg ?_)
   show (if g=f then some u else mA g)=none
   rw[if_neg q];exact z
theorem aJ.made (I:aJ X ah σ H s):aJ X ah σ (bu (bu H s.heap.objs.size (.tw (s.heap.objs.size+1))) (s.heap.objs.size+1) (.fH C s.heap.objs.size []))
  {s with heap:=(s.heap.push PySem.W.emptyDict).push (PySem.W.instObj C s.heap.objs.size)}:=by
 have e1:(s.heap.push PySem.W.emptyDict).get? s.heap.objs.size=some PySem.W.emptyDict:=zao s.heap rfl
 have e2:((s.heap.push PySem.W.emptyDict).push (PySem.W.instObj C s.heap.objs.size)).get? (s.heap.objs.size+1)=some (PySem.W.instObj C s.heap.objs.size):=by
  have:=zao (s.heap.push PySem.W.emptyDict) (o:=PySem.W.instObj C s.heap.objs.size) rfl
  rwa[zbU] at this
 have e3:(s.heap.push PySem.W.emptyDict).Ns s.heap.objs.size (λ_=>none):=⟨PySem.W.emptyDict,#[],_,e1,rfl,(λe he=>absurd he (by simp)),λ_=>rfl⟩
 have I1:=I.jA (a:=s.heap.objs.size) (o:=.tw (s.heap.objs.size+1)) (h':=s.heap.push PySem.W.emptyDict) (t':=s.toks) (λb u q=>zab _ q) (zaf _) ⟨_,e1⟩
 refine I1.jA (a:=s.heap.objs.size+1) (o:=.fH C s.heap.objs.size []) (t':=s.toks) (λb u q=>zab _ q) (Nat.le_of_eq (zbU _ _)) ?_
 have ne:s.heap.objs.size≠s.heap.objs.size+1:=zaq (zbi _)
 refine⟨by rw[av ne,au],zcA _,ne,e2,λ_=>none,(Heap.Ns1.of_empty e3).at λo q=>zab _ q,λ_=>True.intro,λy hy=>absurd rfl hy⟩
theorem Rq (hb:attributeBase e f env (eval e env)=eval e env)
  (h:wpAny (model prog w) A (eval e env) (λo cN=>wpAny (model prog w) A (getAttr o f true) Q E cN) E s):wpAny (model prog w) A (eval (.Attribute e f pos) env) Q E s:=
 Attribute_any_ h (by rw[arm_eval_Attribute,hb])
noncomputable def alG (K:PySem.W.Frag)(ta:TE)(f:Str):TE:=λσ H Q=>ta σ H λx H1=>∃a C dx fs v,x = .ref a/\H1 a=some (.fH C dx fs)/\wQ K C/\cD K C f/\fs.lookup f=some v/\Q v H1
noncomputable def alH (K:PySem.W.Frag)(ta tv:TE)(f:Str):TS:=λD σ H=>tv σ H λy H1=>ta σ H1 λx H2=>∃a C dx fs,x = .ref a/\H2 a=some (.fH C dx fs)/\wQ K C/\cD K C f/\fs.length<1000 /\
 D.nx σ (bu H2 a (.fH C dx (gE f y fs)))
noncomputable def Rr (X:Cx)(op:Operator)(rd:V->V->Hp->VK->Prop):Prop:=
 ∀(ah:List (Addr×Obj)) (s:Shared) (σ:St) (H:Hp) (x y:V) (u v:Value) (Q:VK),aJ X ah σ H s->bG x u->bG y v->rd x y H Q->wpAny (model X.prog X.w) X.A (inplaceOp op u v) (EP X ah σ Q) X.xe s
noncomputable def Rt (K:PySem.W.Frag)(ta tv:TE)(rd:V->V->Hp->VK->Prop)(f:Str):TS:=λD σ H=>ta σ H λx H1=>∃a C dx fs v,x = .ref a/\H1 a=some (.fH C dx fs)/\wQ K C/\cD K C f/\fs.lookup f=some v /\
 tv σ H1 λy H2=>rd v y H2 λz H3=>∃dx' K2,H3 a=some (.fH C dx' K2)/\K2.length<1000/\D.nx σ (bu H3 a (.fH C dx' (gE f z K2)))
theorem Z5 (he:PE X e ta)(hb:attributeBase e f X.env (eval e X.env)=eval e X.env):PE X (.Attribute e f pos) (alG X.K ta f):=by
 intro ah s σ H Q I h;refine Rq hb (cM (he ah s σ H _ I h) λu s1 ⟨x,H1,I1,rx,a,C,dx,fs,v,ex,ea,c,n,l,q⟩=>?_)
 subst ex;obtain rfl:u=Value.ref a:=rx
 exact tN I1 ea c n l λu' s2 I2 ru=>⟨v,H1,I2,ru,q⟩
theorem Z6 (ha:PE X o ta)(hv:PE X value tv)(hs:swapsWith value (some (.Attribute o f jD)) pos.line X.env=pure false):PS X (.Assign [.Attribute o f jD] value pos) (alH X.K ta tv f):=by
 intro ah s σ H D I h;refine zcs (cM (hv ah s σ H _ I h) λu s1 ⟨y,H1,I1,ry,q⟩=>cM (ha ah s1 σ H1 _ I1 q) λov s2 ⟨x,H2,I2,rx,a,C,dx,fs,ex,ea,c,n,l,q2⟩=>?_) hs
 subst ex;obtain rfl:ov=Value.ref a:=rx
 exact tO I2 ea c n l ry λs3 I3=>⟨σ,_,I3,q2⟩
theorem IZ (ha:PE X o ta)(hv:PE X value tv)(hop:Rr X op rd):PS X (.AugAssign (.Attribute o f aqx) op value pos) (Rt X.K ta tv rd f):=by
 intro ah s σ H D I h;refine wpAny_AugAssign_AttributeAny (cM (ha ah s σ H _ I h) λov s1 ⟨x,H1,I1,rx,a,C,dx,fs,v,ex,ea,c,n,l,q⟩=>?_)
 subst ex;obtain rfl:ov=Value.ref a:=rx
 refine tN I1 ea c n l λu s2 I2 ru=>cM (hv ah s2 σ H1 _ I2 q) λw3 s3 ⟨y,H2,I3,ry,q3⟩=>cM (hop ah s3 σ H2 v y u w3 _ I3 ru ry q3) λw4 s4 ⟨z,H3,I4,rz,dx',K2,ea',l',q4⟩=>?_
 exact tO I4 ea' c n l' rz λs5 I5=>⟨σ,_,I5,q4⟩
noncomputable def alJ:V->V->Hp->VK->Prop:=λx y H Q=>∃i j,x = .int i/\y = .int j/\Q (.int (i+j)) H
theorem Z7:Rr X .Add alJ:=by
 rintro ah s σ H x y u v Q I rx ry ⟨i,j,rfl,rfl,q⟩
 obtain⟨t,rfl⟩:=(show ∃t,u=Value.int i t from rx)
 obtain⟨t',rfl⟩:=(show ∃t',v=Value.int j t' from ry)
 exact PyProof.Rows.iadd_int ⟨.int (i+j),H,I.o8 _,⟨_,rfl⟩,q⟩
section
variable {X:Cx}{ah:List (Addr×Obj)}{σ:St}{H:Hp}{s:Shared}{A:Around}{E:Value->Shared->Prop}{Q:Value->Shared->Prop}{c:Value}{b:Bool}
inductive pq (K:PySem.W.Frag) (H:Hp):V->Value->Prop where
 |bz:pq K H .bz (.type "NoneType")
 |bl (x:Bool):pq K H (.bl x) (.type "bool")
 |int (i:Int):pq K H (.int i) (.type "int")
 |str (x:Str):pq K H (.str x) (.type "str")
 |Zo (x:UInt64):pq K H (.Zo x) (.type "float")
 |aM {a:Addr} {xs:List V} (e:H a=some (.aM xs)):pq K H (.ref a) (.type "list")
 |qw {a:Addr} {o:Obj} {xs:List V} (e:H a=some (.qw o (.aM xs))):pq K H (.ref a) (.type "list")
 |fP {a:Addr} {xs:List V} (e:H a=some (.fP xs)):pq K H (.ref a) (.type "tuple")
 |dK {a:Addr} {aK:List (dh×V)} (e:H a=some (.dK aK)):pq K H (.ref a) (.type "dict")
 |dT {a:Addr} {aK:List (List dh×V)} (e:H a=some (.dT aK)):pq K H (.ref a) (.type "dict")
 |fH {a C dx:Addr} {fs:List (Str×V)} (e:H a=some (.fH C dx fs)) (cl:wQ K C) (ha:PySem.W.findIn K (.ref C) "__class__"=some (some (.builtin "object.__class__")))
   (hn:PySem.W.specialIn K (.builtin "object.__class__") "__get__"=some (some (.builtin "getset_descriptor.__get__"))) (htk:PySem.W.takesIn K (.builtin "object.__class__")=some true)
   (hm:PySem.W.mroIn K C (.type "object")=some true):pq K H (.ref a) (.ref C)
theorem I0 (I:aJ X ah σ H s)(rx:bG x u)(ty:pq X.K H x t)(e:PySem.W.kitOne X.K t c=some b)(h:∀tk,Q (.bool b) {s with toks:=tk}):
  wpAny (model X.prog X.w) A (call (.builtin "isinstance") [u,c]) Q E s:=by
 cases ty with
 |bz=>cases (show u=Value.none from rx);exact zbe PySem.W.kitx_none I.kO True.intro e (λz=>nomatch z) h
 |bl y=>cases (show u=Value.bool y from rx);exact zbe PySem.W.kitx_bool I.kO True.intro e (λz=>nomatch z) h
 |int i=>obtain⟨t,q⟩:=(show ∃t,u=Value.int i t from rx);cases q;exact zbe PySem.W.kitx_int I.kO True.intro e (λz=>nomatch z) h
 |str y=>obtain⟨t,q⟩:=(show ∃t,u=Value.str y t from rx);cases q;exact zbe PySem.W.kitx_str I.kO True.intro e (λz=>nomatch z) h
 |Zo y=>obtain⟨t,q⟩:=(show ∃t,u=Value.float y t from rx);cases q;exact zbe PySem.W.kitx_float I.kO True.intro e (λz=>nomatch z) h
 | @aM a xs ea =>
  cases (show u=Value.ref a from rx)
  obtain⟨_,_,n,_,h1⟩:=(show bZ X.prog X.w H s.heap a (.aM xs) from I.cA a _ ea)
  exact zbe zeX I.kO ⟨_,h1,rfl⟩ e (λz=>nomatch z) h
 | @qw a ob xs ea =>
  cases (show u=Value.ref a from rx)
  obtain⟨_,_,_,n,_,h1⟩:=(show bZ X.prog X.w H s.heap a (.qw ob (.aM xs)) from I.cA a _ ea)
  exact zbe zeX I.kO ⟨_,h1,rfl⟩ e (λz=>nomatch z) h
 | @fP a xs ea =>
  cases (show u=Value.ref a from rx)
  obtain⟨_,_,_,p⟩:=(show bZ X.prog X.w H s.heap a (.fP xs) from I.cA a _ ea)
  obtain⟨o,h1,h2,_⟩:=p;exact zbe PySem.W.kitx_tuple I.kO ⟨o,h1,h2⟩ e (λz=>nomatch z) h
 | @dK a aK ea =>
  cases (show u=Value.ref a from rx)
  obtain⟨_,_,vs,_,p⟩:=(show bZ X.prog X.w H s.heap a (.dK aK) from I.cA a _ ea)
  obtain⟨o,es,ep,h1,h2,_⟩:=p;exact zbe zeY I.kO ⟨o,h1,h2.1⟩ e (λz=>nomatch z) h
 | @dT a aK ea =>
  cases (show u=Value.ref a from rx)
  obtain⟨_,_,xs,_,o,es,ep,h1,h2,_⟩:=(show bZ X.prog X.w H s.heap a (.dT aK) from I.cA a _ ea)
  exact zbe zeY I.kO ⟨o,h1,h2.1⟩ e (λz=>nomatch z) h
 | @fH a C dx fs ea cl ha hn htk hm =>
  cases (show u=Value.ref a from rx)
  obtain⟨mA,O,_⟩:=sO I.cA ea;obtain⟨od,J,_⟩:=O.Rm;exact zbe (PySem.W.kitx_own (cl.get _) cl.hd ha hn htk hm) I.kO J e (λz=>nomatch z) h
end
structure gV (k:Nat) (A:Around):Prop where
 hd:A.handled=none
 dp:A.depth+3 * k+5<recursionLimit
 un:A.units+16 * k+200<cLine
theorem gV.mono (r:gV k A)(h:j<=k):gV j A:=⟨r.hd,by have:=r.dp;omega,by have:=r.un;omega⟩
theorem gV.deeper (r:gV (k+1) A)(env:Env):gV k (A.deeper env):=
 ⟨r.hd,by have:=r.dp;show A.depth+1+3 * k+5<_;omega,by have:=r.un;show A.units+3+16 * k+200<_;omega⟩
theorem Eo {A:Around}{C:Addr}{us:List Value}{kw:List (Str×Value)}:(A.under (.builtin "type.__call__" ⟨.ref C::us,kw⟩)).depth=A.depth+1:=by
 first|rfl|simp[Around.under,Code.weight,Code.isCreation,Code.isGuard,Code.isCaller,Code.frames,Code.isFrame,ags]
theorem Ep {A:Around}{C:Addr}{us:List Value}{kw:List (Str×Value)}:(A.under (.builtin "type.__call__" ⟨.ref C::us,kw⟩)).units=A.units+1:=by
 first|rfl|simp[Around.under,Code.cUnits,Code.frames,Code.isFrame]
theorem gV.LC (r:gV (k+1) A)(C:Addr)(us:List Value)(kw:List (Str×Value)):gV k (A.under (.builtin "type.__call__" ⟨.ref C::us,kw⟩)):=
 ⟨r.hd,by have:=r.dp;rw[Eo];omega,by have:=r.un;rw[Ep];omega⟩
theorem gV.depth (r:gV k A):A.depth<recursionLimit:=by have:=r.dp;omega
noncomputable def agt:TA:=λ_ H Q=>Q [] H
noncomputable def agu (ta:TE)(tr:TA):TA:=λσ H Q=>ta σ H λx H1=>tr σ H1 λxs H2=>Q (x::xs) H2
theorem Es:PA X [] agt:=λ_ _ _ _ H Q I h=>Calls.spliced_nil ⟨[],H,I,.nil,h⟩
theorem pA (ha:PE X e te)(hr:PA X es t)(hs:starEach (e::es) X.env=(false,eval e X.env)::starEach es X.env:=by rfl):PA X (e::es) (agu te t):=by
 intro pos ah s σ H Q I h;rw[hs];show wpAny _ _ (spliced ((false,eval e X.env)::backTo pos (starEach es X.env))) _ _ s
 refine zdw (cM (ha ah s σ H _ I h) λu s1 ⟨x,H1,I1,r1,q1⟩=>?_)
 exact cM (hr pos ah s1 σ H1 _ I1 q1) λus s2 ⟨xs,H2,I2,r2,q2⟩=>⟨x::xs,H2,I2,.cons r1 r2,q2⟩
noncomputable def alK (t:TA):TE:=λσ H Q=>t σ H λxs H1=>xs.length<=sizeLine/\∀p,H1 p=none->Q (.ref p) (bu H1 p (.fP xs))
noncomputable def alL (t:TA):TE:=λσ H Q=>t σ H λxs H1=>xs.length<=sizeLine/\∀p,H1 p=none->Q (.ref p) (bu H1 p (.aM xs))
theorem Z8 {x1}(h:PA X es t):PE X (.Tuple es x1 pos) (alK t):=by
 intro ah s σ H Q I hq;refine wpAny_Tuple_spliced (cM (h pos ah s σ H _ I hq) λus s1 ⟨xs,H1,I1,r,z,q⟩=>⟨by rw[<-r.length];exact z,?_⟩)
 have hf:H1 s1.heap.objs.size=none:=I1.cA.fresh (zaf _)
 refine⟨.ref s1.heap.objs.size,bu H1 s1.heap.objs.size (.fP xs),I1.jA (t':=s1.toks) (λb u e=>zab _ e) (zaf _) ?_,rfl,q _ hf⟩
 exact⟨z,us,r,⟨_,zao _ rfl,rfl,_,rfl⟩⟩
theorem LD (h:PA X es t):PE X (.List es pos) (alL t):=by
 intro ah s σ H Q I hq;refine wpAny_List_spliced (cM (h pos ah s σ H _ I hq) λus s1 ⟨xs,H1,I1,r,z,q⟩=>⟨by rw[<-r.length];exact z,?_⟩)
 have hf:H1 s1.heap.objs.size=none:=I1.cA.fresh (zaf _)
 refine⟨.ref s1.heap.objs.size,bu H1 s1.heap.objs.size (.aM xs),I1.jA (t':=s1.toks) (λb u e=>zab _ e) (zaf _) ?_,rfl,q _ hf⟩
 exact⟨z,us,0,r,zao _ rfl⟩
noncomputable abbrev Sp:=List V->Hp->VK->XK->Prop
noncomputable abbrev DO:=List Env->Hp->Shared->XK->Value->Shared->Prop
structure Et (P:Program) (w:World) (K:PySem.W.Frag) (mg:Str->Option Value) (base:Heap) (A:Around) (outer:List Env) (s:Shared) (H:Hp):Prop where
 frames:A.frames=some outer
 tF:Mod K mg base
 bs:∀b o,base.get? b=some o->s.heap.get? b=some o/\H b=none
 QO:base.objs.size<=s.heap.objs.size
 mj:s.heap.FunFrames base outer
 Li:∀b∈sN outer,H b=none
 cA:oh P w H s.heap
 i6:AllBare s.gens
noncomputable def CE (outer:List Env)(P:Program)(w:World)(H:Hp)(s:Shared)(Q:VK)(u:Value)(s':Shared):Prop:=
 ∃v H',s'.os=s.os/\AllBare s'.gens/\Un (sN outer) [] H H' s.heap s'.heap/\oh P w H' s'.heap/\bG v u/\Q v H'
noncomputable def CR (CX:DO)(outer:List Env)(P:Program)(w:World)(H:Hp)(s:Shared)(Q:VK)(E:XK)(r:Result)(s':Shared):Prop:=
 match r with
 |.ok (.ret u)=>CE outer P w H s Q u s'
 |.ok _=>False
 |.error e=>CX outer H s E e s'
structure aQ (P:Program) (w:World) (K:PySem.W.Frag) (mg:Str->Option Value) (base:Heap) (CX:DO) (k:Nat) (f:Addr) (fd:FuncData) (ps:List Str) (sp:Sp):Prop where
 len:∀vs H Q E,sp vs H Q E->vs.length=ps.length
 kW:∀(A:Around) (outer:List Env) (s:Shared) (H:Hp) (args:Args) (us:List Value) (vs:List V) (Q:VK) (E:XK),gV k A->Et P w K mg base A outer s H->BindsTo s fd args (ps.zip us)->bA vs us->sp vs H Q E ->
  codeAny (model P w) A (.call (.ref f) args) (CR CX outer P w H s Q E) s
theorem aQ.imp {P:Program}{w:World}{K:PySem.W.Frag}{mg:Str->Option Value}{base:Heap}{CX:DO}{k:Nat}{f:Addr}{fd:FuncData}{ps:List Str}{sp sp':Sp}(F:aQ P w K mg base CX k f fd ps sp)
  (h:∀vs H Q E,sp' vs H Q E->sp vs H Q E):aQ P w K mg base CX k f fd ps sp':=
 ⟨λvs H Q E q=>F.len vs H Q E (h _ _ _ _ q),λA outer s H args us vs Q E hr he hb hv hs=>F.kW A outer s H args us vs Q E hr he hb hv (h _ _ _ _ hs)⟩
theorem Et.LC {P:Program}{w:World}{K:PySem.W.Frag}{mg:Str->Option Value}{base:Heap}{A:Around}{outer:List Env}{s:Shared}{H:Hp}(e:Et P w K mg base A outer s H)(C:Addr)(us:List Value)(kw:List (Str×Value)):
  Et P w K mg base (A.under (.builtin "type.__call__" ⟨.ref C::us,kw⟩)) outer s H:=⟨by first|exact e.frames | (simpa[Around.under,Code.envs,Code.isFrame,agv] using e.frames),e.tF,e.bs,e.QO,e.mj,e.Li,e.cA,e.i6⟩
theorem aJ.Bl (I:aJ X ah σ H s):Et X.prog X.w X.K X.mg X.base X.A X.di s H:=
 ⟨I.ok.frames,I.ok.tF,I.bs,zai I.ok.QO I.sz,I.di,I.Gu,I.cA,I.i6⟩
theorem aJ.after (I:aJ X ah σ H s)(h:CE X.di X.prog X.w H s Q u s'):EP X ah σ Q u s':=by
 obtain⟨v,H',os,i6,un,cA,r,q⟩:=h;obtain⟨hh,g,d,t,os'⟩:=s';obtain rfl:os'=s.os:=os
 exact⟨v,H',I.call (h':=hh) (g':=g) (d':=d) (t':=t) (ch:=[]) un cA i6 (λb z=>absurd z (by simp)),r,q⟩
noncomputable def VH (sp:Sp)(nK:List V)(E:XK)(t:TA):TE:=λσ H Q=>t σ H λvs H1=>sp (vs++nK) H1 Q E
noncomputable def GG (C:Addr)(m:Str)(sp:Sp)(nK:List V)(E:XK)(ta:TE)(t:TA):TE:=λσ H Q=>ta σ H λx H1=>∃a dx fs,x = .ref a/\H1 a=some (.fH C dx fs)/\fs.lookup m=none /\
 t σ H1 λvs H2=>sp (x::(vs++nK)) H2 Q E
noncomputable def VI (C:Addr)(sp:Sp)(nK:List V)(E:XK)(t:TA):TE:=λσ H Q=>t σ H λvs H1=>∀x dx,H1 x=none->H1 dx=none->dx≠x ->
 sp (.ref x::(vs++nK)) (bu (bu H1 dx (.tw x)) x (.fH C dx [])) (λv H2=>v = .bz/\Q (.ref x) H2) E
noncomputable def fq (K:PySem.W.Frag)(fd:FuncData)(ps:List Str)(ds:List Value):Prop:=
 ∀(s:Shared) (us:List Value),K.In s.heap->(us++ds).length=ps.length->BindsTo s fd ⟨us,[]⟩ (ps.zip (us++ds))
theorem fq.all {K:PySem.W.Frag}{fd:FuncData}{ps:List Str}(h:∀us:List Value,us.length=ps.length->bindArgs fd ⟨us,[]⟩=pure (ps.zip us)):fq K fd ps []:=λs us _ hl=>by
 rw[zaw] at hl ⊢
 exact .of_eq (h us hl)
noncomputable def gF (CX:DO)(X:Cx)(E:XK):Prop:=∀(ah:List (Addr×Obj)) (σ:St) (H:Hp) (s:Shared) (e:Value) (s':Shared),aJ X ah σ H s->CX X.di H s E e s'->X.xe e s'
section
variable {X:Cx}{CX:DO}{k:Nat}{f C:Addr}{fd:FuncData}{ps:List Str}{sp:Sp}{nK:List V}{ds:List Value}{E:XK}{x m:Str}{p pos eO:Pos}{e o:Expr}{es:List Expr}{ta:TE}{t:TA}
theorem Eu (F:aQ X.prog X.w X.K X.mg X.base CX k f fd ps sp)(hr:gV k X.A)(hb:fq X.K fd ps ds)(hd:bA nK ds)(hx:gF CX X E)
  (I:aJ X ah σ H s) (r:bA vs us) (h:sp (vs++nK) H Q E):wpAny (model X.prog X.w) X.A (call (.ref f) us) (EP X ah σ Q) X.xe s:=by
 have r2:bA (vs++nK) (us++ds):=r.jh hd
 have hl:(us++ds).length=ps.length:=by rw[<-r2.length];exact F.len _ _ _ _ h
 refine zdh (zcN (F.kW X.A X.di s H ⟨us,[]⟩ (us++ds) (vs++nK) Q E hr I.Bl (hb s us I.kO hl) r2 h) λr s' hq=>?_)
 cases r with
 |error e=>exact hx ah σ H s e s' I hq
 |ok fl =>
  cases fl with
  |ret u=>exact I.after hq
  |next=>exact False.elim hq
  |brk=>exact False.elim hq
  |cont=>exact False.elim hq
theorem Ru (F:aQ X.prog X.w X.K X.mg X.base CX k f fd ps sp)(hr:gV k X.A)(hg:Gl X x)(hm:X.mg x=some (.ref f))(hk:PySem.W.keepIn X.K (.ref f)=true)(hb:fq X.K fd ps ds)(hd:bA nK ds)(hx:gF CX X E)
  (ha:PA X (e::es) t) (tP:(x == ("__debug__" : Str))=false:=by decide) (he:starEach (e::es) X.env=(false,eval e X.env)::starEach es X.env:=by rfl) (hpl:(backTo pos (starEach es X.env)).any (·.1)=false:=by rfl):
  PE X (.Call (.Name x p) (e::es) [] pos) (VH sp nK E t):=by
 intro ah s σ H Q I h;refine zcu (nI I hg hm ?_ tP)
 refine zcO (h₀:= X.base) I.ok.tF.Zt hk (cM (ha pos ah s σ H _ I h) λus s1 ⟨vs,H1,I1,r,q⟩=>⟨I1.kO,?_⟩) he hpl
 exact Eu F hr hb hd hx I1 r q
theorem Rv (he:PE X o ta)(c:wQ X.K C)(hm:dO X.K C m f)(F:aQ X.prog X.w X.K X.mg X.base CX k f fd ps sp)(hr:gV k X.A)(hb:fq X.K fd ps ds)(hd:bA nK ds)(hx:gF CX X E)(ha:PA X (e::es) t)
  (qy:starEach (e::es) X.env=(false,eval e X.env)::starEach es X.env:=by rfl) (hpl:(backTo pos (starEach es X.env)).any (·.1)=false:=by rfl)
  (ht:eval (.Call (.Attribute o m eO) (e::es) [] pos) X.env=(do
   let ov <-eval o X.env
   standAt eO.atName
   let (f,first) <-holding [ov] (getMethod ov m pl)
   callWith pos f first (backTo pos (starEach (e::es) X.env)) (backToKw pos (keywordEach [] X.env))):=by rfl):
  PE X (.Call (.Attribute o m eO) (e::es) [] pos) (GG C m sp nK E ta t):=by
 intro ah s σ H Q I h;refine zde (pl:=pl) (cM (he ah s σ H _ I h) λu s1 ⟨x,H1,I1,rx,a,dx,fs,ex,ea,l,q⟩=>?_) ht
 subst ex;obtain rfl:u=Value.ref a:=rx
 refine oM I1 ea c hm l ?_
 refine zcO (first:=[.ref a]) (h₀:= X.base) I.ok.tF.Zt hm.kp (cM (ha pos ah s1 σ H1 _ I1 q) λus s2 ⟨vs,H2,I2,r,q2⟩=>⟨I2.kO,?_⟩) qy hpl
 exact Eu (us:=.ref a::us) (vs:=.ref a::vs) F hr hb hd hx I2 (.cons rfl r) q2
theorem LF (he:PE X o ta)(c:wQ X.K C)(hm:dO X.K C m f)(F:aQ X.prog X.w X.K X.mg X.base CX k f fd ps sp)(hr:gV k X.A)(hb:fq X.K fd ps ds)(hd:bA nK ds)(hx:gF CX X E)
  (ht:eval (.Call (.Attribute o m eO) [] [] pos) X.env=(do
   let ov <-eval o X.env
   standAt eO.atName
   let (f,first) <-holding [ov] (getMethod ov m pl)
   callWith pos f first (backTo pos (starEach [] X.env)) (backToKw pos (keywordEach [] X.env))):=by rfl):
  PE X (.Call (.Attribute o m eO) [] [] pos) (GG C m sp nK E ta agt):=by
 intro ah s σ H Q I h;refine zde (pl:=pl) (cM (he ah s σ H _ I h) λu s1 ⟨x,H1,I1,rx,a,dx,fs,ex,ea,l,q⟩=>?_) ht
 subst ex;obtain rfl:u=Value.ref a:=rx
 refine oM I1 ea c hm l ?_
 exact PySem.W.callWith_K0 (first:=[.ref a]) I1.kO hm.kp (Eu (us:=[.ref a]) (vs:=[.ref a]) F hr hb hd hx I1 (.cons rfl .nil) q)
structure Mk (K:PySem.W.Frag) (C f:Addr):Prop where
 agw:PySem.W.makesIn K C=true
 init:PySem.W.findIn K (.ref C) "__init__"=some (some (.ref f))
 fn:PySem.W.isFn K (.ref f)=true
 kp:PySem.W.keepIn K (.ref C)=true
theorem LG (M:Mk X.K C f)(F:aQ X.prog X.w X.K X.mg X.base CX k f fd ps sp)(hr:gV (k+1) X.A)(hb:fq X.K fd ps ds)(hd:bA nK ds)
  (hx:gF CX X E) (I:aJ X ah σ H s) (r:bA vs us)
  (h:∀x dx,H x=none->H dx=none->dx≠x->sp (.ref x::(vs++nK)) (bu (bu H dx (.tw x)) x (.fH C dx [])) (λv H2=>v = .bz/\Q (.ref x) H2) E):
  wpAny (model X.prog X.w) X.A (call (.ref C) us) (EP X ah σ Q) X.xe s:=by
 have hq:=h (s.heap.objs.size+1) s.heap.objs.size (I.cA.fresh (zbE _)) (I.cA.fresh (zaf _)) (zaq (zbi _))
 have I2:=aJ.made (C:=C) I
 have r2:bA (V.ref (s.heap.objs.size+1)::(vs++nK)) (Value.ref (s.heap.objs.size+1)::(us++ds)):=.cons rfl (r.jh hd)
 have hl:(Value.ref (s.heap.objs.size+1)::us++ds).length=ps.length:=by
  have e:=r2.length;rw[F.len _ _ _ _ hq] at e;exact e.symm
 refine zdh (LB (f:=f) I.kO M.agw M.init (beq_iff_eq.mp M.fn) (zcN (F.kW _ X.di _ _ ⟨Value.ref (s.heap.objs.size+1)::us,[]⟩ (Value.ref (s.heap.objs.size+1)::(us++ds)) _ _ E (hr.LC C us [])
  (I2.Bl.LC C us []) (hb _ (Value.ref (s.heap.objs.size+1)::us) I2.kO hl) r2 hq) λr s' LH=>?_))
 cases r with
 |error e=>exact hx ah σ _ _ e s' I2 LH
 |ok fl =>
  cases fl with
  |ret u =>
   obtain⟨v,H',I3,rv,ev,q3⟩:=I2.after LH;subst ev;exact⟨rv,⟨V.ref (s.heap.objs.size+1),H',I3,rfl,q3⟩⟩
  |next=>exact False.elim LH
  |brk=>exact False.elim LH
  |cont=>exact False.elim LH
theorem Rw (M:Mk X.K C f)(F:aQ X.prog X.w X.K X.mg X.base CX k f fd ps sp)(hr:gV (k+1) X.A)(hg:Gl X x)(hm:X.mg x=some (.ref C))(hb:fq X.K fd ps ds)(hd:bA nK ds)(hx:gF CX X E)
  (ha:PA X (e::es) t) (tP:(x == ("__debug__" : Str))=false:=by decide) (he:starEach (e::es) X.env=(false,eval e X.env)::starEach es X.env:=by rfl) (hpl:(backTo pos (starEach es X.env)).any (·.1)=false:=by rfl):
  PE X (.Call (.Name x p) (e::es) [] pos) (VI C sp nK E t):=by
 intro ah s σ H Q I h;refine zcu (nI I hg hm ?_ tP)
 refine zcO (h₀:= X.base) I.ok.tF.Zt M.kp (cM (ha pos ah s σ H _ I h) λus s1 ⟨vs,H1,I1,r,q⟩=>⟨I1.kO,?_⟩) he hpl
 exact LG M F hr hb hd hx I1 r q
end
section
variable {X:Cx}{CX:DO}{k:Nat}{f C:Addr}{fd:FuncData}{ps ks:List Str}{sp:Sp}{E:XK}{x m:Str}{p pos eO aqz:Pos}{e o:Expr}{es:List Expr}{kws:List Keyword}{te ta:TE}{t tk:TA}{nm:Option Str}
end
structure aq (N P:List Str) (sc:Scope):Prop where
 kind:sc.kind = .function
 co:sc.isCoroutine=false
 gen:sc.isGenerator=false
 nd:N.Nodup
 pre:N.take P.length=P
 par:∀x∈P,sc.names.lookup x=some .local\/sc.names.lookup x=some .cell
 Z9:∀y∈sc.names,y.2 ≠ .free
theorem xU {kindOf:Str->Option NameKind}{x:Str}:∀{rD:List (Str×Value)} {m:Str->Option Value},(∀v,(x,v)∉rD)->bindL kindOf rD m x=m x
 |[],_,_=>rfl
 | (n,v)::r,m,h=>by
  unfold bindL;rw[xU λw hw=>h w (zaP _ hw)]
  split
  ·have:x≠n:=by rintro rfl;exact h v zbZ
   simp[this]
  ·rfl
theorem xV {kindOf:Str->Option NameKind}{x:Str}:∀{rD:List (Str×Value)} {m:Str->Option Value},(∀v,(x,v)∉rD)->bindC kindOf rD m x=m x
 |[],_,_=>rfl
 | (n,v)::r,m,h=>by
  unfold bindC;rw[xV λw hw=>h w (zaP _ hw)]
  split
  ·rfl
  ·have:x≠n:=by rintro rfl;exact h v zbZ
   simp[this]
theorem xW {kindOf:Str->Option NameKind}{x:Str}{v:Value}:∀{P:List Str} {vs:List Value} {i:Nat} {m:Str->Option Value},P.Nodup->P[i]? = some x->vs[i]? = some v->kindOf x=some .local ->
  bindL kindOf (P.zip vs) m x=some v
 |[],_,_,_,_,h,_,_=>by simp at h
 |_::_,[],_,_,_,_,h,_=>by simp at h
 |p::P,w::vs,0,m,nd,h1,h2,hk=>by
  simp at h1 h2;subst h1;subst h2
  show bindL kindOf ((p,w)::P.zip vs) m p=_
  unfold bindL;rw[xU λv hv=>(zbD.mp nd).1 (zdY hv).1,if_pos hk]
  simp
 |p::P,w::vs,i+1,m,nd,h1,h2,hk=>by
  show bindL kindOf ((p,w)::P.zip vs) m x=_
  unfold bindL;exact xW (i:=i) (zbD.mp nd).2 (by simpa using h1) (by simpa using h2) hk
theorem xX {kindOf:Str->Option NameKind}{x:Str}{v:Value}:∀{P:List Str} {vs:List Value} {i:Nat} {m:Str->Option Value},P.Nodup->P[i]? = some x->vs[i]? = some v->kindOf x≠some .local ->
  bindC kindOf (P.zip vs) m x=some v
 |[],_,_,_,_,h,_,_=>by simp at h
 |_::_,[],_,_,_,_,h,_=>by simp at h
 |p::P,w::vs,0,m,nd,h1,h2,hk=>by
  simp at h1 h2;subst h1;subst h2
  show bindC kindOf ((p,w)::P.zip vs) m p=_
  unfold bindC;rw[xV λv hv=>(zbD.mp nd).1 (zdY hv).1,if_neg hk]
  simp
 |p::P,w::vs,i+1,m,nd,h1,h2,hk=>by
  show bindC kindOf ((p,w)::P.zip vs) m x=_
  unfold bindC;exact xX (i:=i) (zbD.mp nd).2 (by simpa using h1) (by simpa using h2) hk
noncomputable def c9 (N:List Str)(vs:List V):St:=vs.map some++List.replicate (N.length - vs.length) none
noncomputable def jE (CX:DO)(P:Program)(w:World)(K:PySem.W.Frag)(mg:Str->Option Value)(base:Heap)(N:List Str)(bX:Str)(scope:Scope)(f:Addr)(cd:Value)(A:Around)(outer:List Env)(s:Shared)(H:Hp)(E:XK):Cx where
 prog:=P
 w:=w
 K:=K
 mg:=mg
 base:=base
 A:=A.deeper (envOfC bX scope s.heap.objs.size f cd)
 N:=N
 s₀:= s
 H₀:= H
 env:=envOfC bX scope s.heap.objs.size f cd
 outer:=outer
 di:=envOfC bX scope s.heap.objs.size f cd::outer
 ex:=[]
 fL:=true
 fn:=λ_=>true
 pn:=[]
 xe:=λe s'=>wpAny (model P w) (A.deeper (envOfC bX scope s.heap.objs.size f cd)) (leaving (envOfC bX scope s.heap.objs.size f cd) e) (λ_ s''=>CX outer H s E e s'') (λe' s''=>CX outer H s E e' s'') s'
theorem Bm {sc:Scope}{n:Nat}{x:Str}(h:sc.names.lookup x=some .cell):∃c,(cellsFrom n sc.names []).lookup x=some c:=by
 have q:=zef sc.names n [] (.inl h)
 exact zcm.mp q
theorem I_ {CX:DO}{P:Program}{w:World}{K:PySem.W.Frag}{mg:Str->Option Value}{base:Heap}{N ps:List Str}{bX:Str}{scope:Scope}{f:Addr}{cd:Value}{A:Around}{outer:List Env}{s s1:Shared}{H:Hp}{E:XK}{us:List Value}{vs:List V}
  (S:aq N ps scope) (hd:A.handled=none) (e0:Et P w K mg base A outer s H) (hl:vs.length=ps.length) (r:bA vs us)
  (x:InCallC s s.heap.objs.size (bindL (envOfC bX scope s.heap.objs.size f cd).kindOf (ps.zip us) λ_=>none) (cellsFrom (s.heap.objs.size+1) scope.names []) (bindC (envOfC bX scope s.heap.objs.size f cd).kindOf (ps.zip us) λ_=>none) s1):
  aJ (jE CX P w K mg base N bX scope f cd A outer s H E) [] (c9 N vs) H s1:=by
 have hpl:ps.length<=N.length:=by have:=congrArg List.length S.pre;rw[zaG] at this;omega
 obtain⟨h1,tk,rfl,hk⟩:=x.done;have noA:∀b:Addr,b∉(jE CX P w K mg base N bX scope f cd A outer s H E).ex:=λb z=>absurd (show b∈([]:List Addr) from z) (by simp)
 refine⟨⟨e0.tF,S.kind,rfl,rfl,zaf _,λy z c h1 h2=>?_,λy hy=>?_,λy c _ h=>?_,λ_=>hd,Around.frames_deeper e0.frames,.inr ⟨rfl,rfl⟩,λb z=>absurd z (noA b),e0.bs,e0.QO,λb _ _=>noA b,λb z=>absurd z (noA b),e0.mj,e0.Li⟩,
  rfl,e0.i6,Un.gA hk,⟨_,x.toInCall.ns,λi y v h1 h2 h3=>?_⟩,λy c h=>⟨_,x.cell y c h⟩,e0.cA.fresh (zaf _),λy c h=>?_,λp hp=>absurd (show p∈([]:List (Addr×Obj)) from hp) (by simp),e0.cA.gA hk,?_⟩
 ·exact name_of_addr x.apart (zbb h1) (zbb h2)
 ·have hy:scope.names.lookup y=some .cell\/scope.names.lookup y=some .free:=hy
  rcases hy with hy|hy
  ·exact Bm hy
  ·exact absurd rfl (S.Z9 _ (zbb hy))
 ·exact zeG (x.above y c (zbb h))
 ·have hi:i<vs.length:=by
   unfold c9 at h2;by_cases hi:i<vs.length
   ·exact hi
   ·rw[zau (by simpa using hi)] at h2
    rw[zcY] at h2;split at h2<;>cases h2
  have ha:vs[i]? = some v:=by
   unfold c9 at h2;rw[zaj (by simpa using hi),zas] at h2
   cases e:vs[i]? with
   |none=>rw[e] at h2;cases h2
   |some a=>rw[e] at h2;cases h2;rfl
  obtain⟨u,hu,rv⟩:=r.get ha;have hp:ps[i]? = some y:=by
   rw[<-S.pre,zbK (by omega)];exact h1
  have ndP:ps.Nodup:=by rw[<-S.pre];exact S.nd.sublist (List.take_sublist _ _)
  refine⟨u,rv,?_⟩
  rcases S.par y (zaR hp) with k|k
  ·exact .inl ⟨k,xW ndP hp hu k⟩
  ·obtain⟨c,e⟩:=Bm (n:=s.heap.objs.size+1) k
   refine .inr ⟨.inl k,c,e,?_⟩
   have q:=x.cell y c e;rw[xX ndP hp hu (by show scope.names.lookup y≠_;rw[k];decide)] at q
   exact q
 ·exact e0.cA.fresh (zeG (x.above y c (zbb h)))
 ·unfold c9
  show _=N.length
  rw[zak,zad,List.length_replicate];omega
theorem LI {CX:DO}{P:Program}{w:World}{K:PySem.W.Frag}{mg:Str->Option Value}{base:Heap}{k:Nat}{f:Addr}{name bX:Str}{params:Arguments}{body:List Stmt}{scope:Scope}{dV kV oN pm fF ct oc:Value}{an od:Option Addr}
  {Ew:Array (Option Value)} {N ps:List Str} {sp:Sp} (lk:K.lookup f=some ⟨oc,od,.func (PySem.W.fnOf name bX params body scope dV kV oN pm an fF ct),Ew⟩) (Bg:PySem.W.codeIn K fF bX=true) (S:aq N ps scope)
  (len:∀vs H Q E,sp vs H Q E->vs.length=ps.length)
  (tQ:∀(A:Around) (outer:List Env) (s:Shared) (H:Hp) (vs:List V) (Q:VK) (E:XK),gV k (A.deeper (envOfC bX scope s.heap.objs.size f fF))->sp vs H Q E ->
   ∃t,xQ (jE CX P w K mg base N bX scope f fF A outer s H E) body t/\t {nx:=λ_ H'=>Q .bz H',rt:=Q} (c9 N vs) H):
  aQ P w K mg base CX (k+1) f (PySem.W.fnOf name bX params body scope dV kV oN pm an fF ct) ps sp:=by
 refine⟨len,λA outer s H args us vs Q E hr e0 hb r K3=>?_⟩
 have hl:=len _ _ _ _ K3;have KX:K.In s.heap:=e0.tF.Zt.keeps λb o e=>(e0.bs b o e).1
 have lim:s.heap.NoLimit:=e0.tF.nolimit.keeps λb o e=>(e0.bs b o e).1
 have agz:∀y∈ps.zip us,scope.names.lookup y.1=some .local\/(scope.names.lookup y.1=some .cell/\((cellsFrom (s.heap.objs.size+1) scope.names []).lookup y.1).isSome=true):=λ⟨n,v⟩ hy=>by
  rcases S.par n (zdY hy).1 with q|q
  ·exact .inl q
  ·exact .inr ⟨q,zef _ _ _ (.inl q)⟩
 refine codeAny_call_function hr.depth (KX _ _ lk) rfl S.co S.gen rfl (PySem.W.codeRec_of KX Bg) (hb _ _ _ _ ?_)
 refine wpAny_newFunctionEnv_cells S.kind agz λenv he s1 x=>?_
 subst he;refine⟨lim.keeps x.toInCall.keep,codeAny_func ?_⟩
 obtain⟨t,ht,hq⟩:=tQ A outer s H vs Q E (hr.deeper _) K3
 have I:aJ (jE CX P w K mg base N bX scope f fF A outer s H E) [] (c9 N vs) H s1:=I_ S hr.hd e0 hl r x
 refine zaQ (ht [] s1 (c9 N vs) H _ I hq) (λfl s' hs=>?_) λe s' hs=>hs
 have fS:∀{fm:St} {H':Hp} {v:V} {u:Value},aJ (jE CX P w K mg base N bX scope f fF A outer s H E) [] fm H' s'->bG v u->Q v H'->CE outer P w H s Q u s':=
  λ{fm H' v u} J rv q=>⟨v,H',J.os,J.i6,J.base,J.cA,rv,q⟩
 cases fl with
 |ret u =>
  obtain⟨v,fm,H',J,rv,q⟩:=hs;exact fS J rv q
 |next =>
  obtain⟨fm,H',J,q⟩:=hs;exact fS (v:=V.bz) (u:=Value.none) J rfl q
 |brk =>
  obtain⟨_,_,_,q⟩:=hs;exact False.elim q
 |cont =>
  obtain⟨_,_,_,q⟩:=hs;exact False.elim q
section
variable {X:Cx}{x:Str}{p pos:Pos}{e:Expr}{es:List Expr}{t:TA}{id T:String}{r:List V->Hp->VK->Prop}
noncomputable def tCB (r:List V->Hp->VK->Prop)(t:TA):TE:=λσ H Q=>t σ H λvs H1=>r vs H1 Q
theorem Bo (hc:jI X (.builtin id) r)(hg:Gl X x)(hm:X.mg x=none)(hv:bootBuiltins x=some (.builtin id))(ha:PA X (e::es) t)(hn:x ≠ "__name__" := by decide)(tP:(x == ("__debug__" : Str))=false:=by decide)
  (he:starEach (e::es) X.env=(false,eval e X.env)::starEach es X.env:=by rfl) (hpl:(backTo pos (starEach es X.env)).any (·.1)=false:=by rfl):PE X (.Call (.Name x p) (e::es) [] pos) (tCB r t):=by
 intro ah s σ H Q I h;refine zcu (tH I hg hm hv ?_ hn tP)
 exact PyProof.Rows.callWith_builtin1 (cM (ha pos ah s σ H _ I h) λus s1 ⟨vs,H1,I1,r1,q1⟩=>hc ah s1 σ H1 vs us Q I1 r1 q1) he hpl
theorem Ja (hc:jI X (.type T) r)(hg:Gl X x)(hm:X.mg x=none)(hv:bootBuiltins x=some (.type T))(ha:PA X (e::es) t)(hn:x ≠ "__name__" := by decide)(tP:(x == ("__debug__" : Str))=false:=by decide)
  (he:starEach (e::es) X.env=(false,eval e X.env)::starEach es X.env:=by rfl) (hpl:(backTo pos (starEach es X.env)).any (·.1)=false:=by rfl):PE X (.Call (.Name x p) (e::es) [] pos) (tCB r t):=by
 intro ah s σ H Q I h;refine zcu (tH I hg hm hv ?_ hn tP)
 exact zcF (cM (ha pos ah s σ H _ I h) λus s1 ⟨vs,H1,I1,r1,q1⟩=>hc ah s1 σ H1 vs us Q I1 r1 q1) he hpl
end
section
variable {κ:Type}[DecidableEq κ]
noncomputable def mq (aK:List (κ × V))(k:κ):Option V:=(aK.find? λkv=>decide (kv.1=k)).map (·.2)
noncomputable def j9 (aK:List (κ × V))(k:κ)(v:V):List (κ × V):=
 if (aK.any λkv=>decide (kv.1=k))=true then aK.map (λkv=>if kv.1=k then (kv.1,v) else kv) else aK++[(k,v)]
theorem pB {p:κ × V}{r:List (κ × V)}{k:κ}(e:p.1=k):mq (p::r) k=some p.2:=by simp[mq,zcv,e]
theorem pC {p:κ × V}{r:List (κ × V)}{k:κ}(e:¬ p.1=k):mq (p::r) k=mq r k:=by simp[mq,zcv,e]
theorem Bp (k:κ):∀aK:List (κ × V),(aK.any λkv=>decide (kv.1=k))=(mq aK k).isSome
 |[]=>rfl
 |p::r=>by
  rw[zbP];by_cases e:p.1=k
  ·simp only[pB e,decide_eq_true e,Bool.true_or,zeJ]
  ·rw[pC e,decide_eq_false e,Bool.false_or];exact Bp k r
theorem mS (aK:List (κ × V))(k:κ)(v:V):(j9 aK k v).length<=aK.length+1:=by
 unfold j9;split
 ·rw[zad];omega
 ·rw[zak,zar,zba];omega
theorem ji.j_ (r:ji o u):o.isSome=u.isSome:=by
 cases o with
 |none=>cases u with
  |none=>rfl
  |some _=>exact (show False from r).elim
 |some _=>cases u with
  |none=>exact (show False from r).elim
  |some _=>rfl
theorem ji.getD (r:ji o u)(rd:bG d d'):bG (o.getD d) (u.getD d'):=by
 cases o with
 |none=>cases u with
  |none=>exact rd
  |some _=>exact (show False from r).elim
 |some _=>cases u with
  |none=>exact (show False from r).elim
  |some _=>exact r
theorem KV.val {aK:List (κ × V)}{vs:List (κ × Value)}(r:KV aK vs)(k:κ):ji (mq aK k) (valueAt vs k):=by
 unfold KV at r;induction r with
 |nil=>exact True.intro
 | @cons p q ps qs h t ih =>
  obtain⟨h1,h2⟩:=h;by_cases e:p.1=k
  ·have e':q.1=k:=h1.symm.trans e
   have b:valueAt (q::qs) k=some q.2:=by simp[valueAt,zcv,e']
   rw[pB e,b];exact h2
  ·have e':¬ q.1=k:=λz=>e (h1.trans z)
   have b:valueAt (q::qs) k=valueAt qs k:=by simp[valueAt,zcv,e']
   rw[pC e,b];exact ih
theorem KV.any (r:KV aK vs)(k:κ):(aK.any λkv=>decide (kv.1=k))=vs.any λkv=>decide (kv.1=k):=by
 unfold KV at r;induction r with
 |nil=>rfl
 |cons h t ih=>rw[zbP,zbP,ih,h.1]
theorem KV.Z_ (r:KV aK vs)(k:κ)(ry:bG y u):
  KV (aK.map λkv=>if kv.1=k then (kv.1,y) else kv) (vs.map λkv=>if kv.1=k then (kv.1,u) else kv):=by
 unfold KV at r ⊢
 induction r with
 |nil=>exact .nil
 | @cons p q ps qs h t ih =>
  rw[zat,zat];refine .cons ?_ ih
  obtain⟨h1,h2⟩:=h;by_cases e:p.1=k
  ·rw[if_pos e,if_pos (h1.symm.trans e)];exact⟨h1,ry⟩
  ·rw[if_neg e,if_neg (λz=>e (h1.trans z))];exact⟨h1,h2⟩
theorem KV.zD (r:KV aK vs)(k:κ)(ry:bG y u):KV (j9 aK k y) (stored vs k u):=by
 unfold j9 stored;rw[r.any k];by_cases e:(vs.any λkv=>decide (kv.1=k))=true
 ·rw[if_pos e,if_pos e];exact r.Z_ k ry
 ·rw[if_neg e,if_neg e];exact Paired.snoc r ⟨rfl,ry⟩
theorem KV.qC {aK:List (κ × V)}{vs:List (κ × Value)}(r:KV aK vs):aK.map (·.1)=vs.map (·.1):=by
 unfold KV at r;induction r with
 |nil=>rfl
 |cons h t ih=>rw[zat,zat,ih,h.1]
theorem KV.length (r:KV aK vs):aK.length=vs.length:=Paired.length r
end
theorem rE (r:bG (kV k) u):(bS P w).is k u=true:=by
 cases k with
 |inl i=>obtain⟨t,e⟩:=(show ∃t,u=Value.int i t from r);subst e;exact Bb P w i t
 |inr x=>obtain⟨t,e⟩:=(show ∃t,u=Value.str x t from r);subst e;exact Bc P w x t
theorem xY:∀{ks:List dh} {us:List Value},bA (ks.map kV) us->ItemsAre (bS P w) ks us
 |[],_,r=>by rw[zaJ] at r;cases r;exact .nil
 |k::ks,_,r=>by
  rw[zat] at r;cases r with
  |cons h t=>exact .cons (rE h) (xY t)
noncomputable abbrev KT (H:Hp):List (List dh×V)->List (List dh×Addr×Value)->Prop:=Paired λp q=>p.1=q.1/\H q.2.1=some (.fP (p.1.map kV))/\bG p.2 q.2.2
theorem KT.val (r:KT H aK xs)(k:List dh):ji (mq aK k) ((atKey xs k).map (·.2)):=by
 induction r with
 |nil=>exact True.intro
 | @cons p q ps qs h t ih =>
  obtain⟨h1,_,h2⟩:=h;by_cases e:p.1=k
  ·have e':q.1=k:=h1.symm.trans e
   have b:atKey (q::qs) k=some q.2:=by simp[atKey,zcv,e']
   rw[pB e,b];exact h2
  ·have e':¬ q.1=k:=λz=>e (h1.trans z)
   have b:atKey (q::qs) k=atKey qs k:=by simp[atKey,zcv,e']
   rw[pC e,b];exact ih
theorem KT.Z_ (r:KT H aK xs)(k:List dh)(ry:bG y u):
  KT H (aK.map λkv=>if kv.1=k then (kv.1,y) else kv) (xs.map (putAt k u)):=by
 induction r with
 |nil=>exact .nil
 | @cons p q ps qs h t ih =>
  rw[zat,zat];refine .cons ?_ ih
  obtain⟨h1,h2,h3⟩:=h;unfold putAt;by_cases e:p.1=k
  ·rw[if_pos e,if_pos (h1.symm.trans e)];exact⟨h1,h2,ry⟩
  ·rw[if_neg e,if_neg (λz=>e (h1.trans z))];exact⟨h1,h2,h3⟩
theorem KT.zD (r:KT H aK xs)(k:List dh)(hb:H b=some (.fP (k.map kV)))(ry:bG y u):
  KT H (j9 aK k y) (storedH xs k b u):=by
 have e:(aK.any λkv=>decide (kv.1=k))=(atKey xs k).isSome:=by
  rw[Bp,(r.val k).j_,zdF]
 unfold j9 storedH;rw[e];by_cases q:(atKey xs k).isSome=true
 ·rw[if_pos q,if_pos q];exact r.Z_ k ry
 ·rw[if_neg q,if_neg q];exact Paired.snoc r ⟨rfl,hb,ry⟩
theorem KT.keeps (r:KT H aK xs)(ht:∀b ys,H b=some (.fP ys)->H' b=some (.fP ys)):KT H' aK xs:=
 Paired.Zr r λ_ _ z=>⟨z.1,ht _ _ z.2.1,z.2.2⟩
theorem VJ (ok:oh P w H h)(e:Rd H a u):bZ P w H h a u:=e.ok ok
theorem rF (ok:oh P w H h)(e:Rd H a (.dK aK)):aK.length<=sizeLine/\(a == sysModules)=false/\∃vs,KV aK vs/\h.DictOf (bS P w) a vs:=
 show bZ P w H h a (.dK aK) from VJ ok e
theorem VL (ok:oh P w H h)(e:H a=some (.dK aK)):aK.length<=sizeLine/\(a == sysModules)=false/\∃vs,KV aK vs/\h.DictOf (bS P w) a vs:=rF ok (.inl e)
theorem qF (ok:oh P w H h)(e:H a=some (.fP (ks.map kV))):(tupleKind (bS P w)).is h ks a:=by
 obtain⟨_,aI,r,o,h1,h2,n,h3⟩:=(show bZ P w H h a (.fP (ks.map kV)) from ok a _ e)
 exact⟨o,aI.toArray,n,h1,h2,h3,by simpa using xY r⟩
theorem tR (ok:oh P w H h)(e:Rd H a (.dT aK)):aK.length<=sizeLine/\(a == sysModules)=false /\
  ∃xs,KT H aK xs/\h.DictOfH (tupleKind (bS P w)) a xs:=by
 obtain⟨z,y,xs,r,o,es,ep,h1,h2,h3,h4,h5⟩:=(show bZ P w H h a (.dT aK) from VJ ok e)
 refine⟨z,y,xs,r,o,es,ep,h1,h2,h3,h4,λx hx=>?_,h5⟩
 have all:∀{l:List (List dh×V)} {m:List (List dh×Addr×Value)},KT H l m->∀x∈m,(tupleKind (bS P w)).is h x.1 x.2.1:=by
  intro l m q;induction q with
  |nil=>intro x hx;exact nomatch hx
  | @cons p q ps qs hq t ih =>
   intro x hx;rcases zap.mp hx with e|hx
   ·subst e
    exact qF ok (by rw[<-hq.1];exact hq.2.1)
   ·exact ih x hx
 exact all r x hx
theorem agA (ok:oh P w H h)(e:H a=some (.dT aK)):aK.length<=sizeLine/\(a == sysModules)=false /\
  ∃xs,KT H aK xs/\h.DictOfH (tupleKind (bS P w)) a xs:=tR ok (.inl e)
noncomputable def mT (H:Hp)(a:Addr)(y:V)(r:Option V):Prop:=
 (∃aK k,Rd H a (.dK aK)/\y=kV k/\r=mq aK k)\/∃aK k b,Rd H a (.dT aK)/\y = .ref b/\H b=some (.fP (k.map kV))/\r=mq aK k
noncomputable def tS (H:Hp)(a:Addr)(y v:V)(H':Hp):Prop:=
 (∃aK k,H a=some (.dK aK)/\y=kV k/\aK.length<sizeLine/\H'=bu H a (.dK (j9 aK k v))) \/
 ∃aK k b,H a=some (.dT aK)/\y = .ref b/\H b=some (.fP (k.map kV))/\aK.length<sizeLine/\H'=bu H a (.dT (j9 aK k v))
theorem mT.k {H:Hp}{a:Addr}{aK:List (dh×V)}{k:dh}(e:H a=some (.dK aK)):mT H a (kV k) (mq aK k):=.inl ⟨aK,k,.inl e,rfl,rfl⟩
theorem tS.k {H:Hp}{a:Addr}{aK:List (dh×V)}{k:dh}{v:V}(e:H a=some (.dK aK))(hl:aK.length<sizeLine):tS H a (kV k) v (bu H a (.dK (j9 aK k v))):=.inl ⟨aK,k,e,rfl,hl,rfl⟩
theorem tS.t {H:Hp}{a b:Addr}{aK:List (List dh×V)}{k:List dh}{v:V}(e:H a=some (.dT aK))(eb:H b=some (.fP (k.map kV)))(hl:aK.length<sizeLine):
  tS H a (.ref b) v (bu H a (.dT (j9 aK k v))):=.inr ⟨aK,k,b,e,rfl,eb,hl,rfl⟩
theorem aJ.big (I:aJ X ah σ H s):sysModules<s.heap.objs.size:=by
 have h:mainGlobals<s.heap.objs.size:=(I.tF.tE.keeps I.bk).lt
 exact zdO (by decide) h
theorem Jb (hu:A.units+1<cLine)(I:aJ X ah σ H s)(g:mT H a y (some v))(ry:bG y u)(h:∀w' s',aJ X ah σ H s'->bG v w'->Q w' s'):
  wpAny (model X.prog X.w) A (getItem (.ref a) u) Q E s:=by
 rcases g with⟨aK,k,e,ey,l⟩|⟨aK,k,b,e,ey,eb,l⟩
 ·subst ey
  obtain⟨z,hd,vs,jJ,dd⟩:=rF I.cA e;obtain⟨w',hw,zB⟩:=ji.zC (v:=v) (o:=valueAt vs k) (by rw[l];exact jJ.val k)
  exact wpAny_getItem_of (rE ry) dd.mapOf hw (h w' _ (I.o8 _) zB)
 ·subst ey
  cases (show u=Value.ref b from ry)
  obtain⟨z,hd,xs,jJ,dd⟩:=tR I.cA e;obtain⟨w',hw,zB⟩:=ji.zC (v:=v) (o:=(atKey xs k).map (·.2)) (by rw[l];exact jJ.val k)
  obtain⟨p,hp,hp2⟩:=zbY.mp hw;refine wpAny_getItem_heap (zcw hu) (qF I.cA eb) dd hp ?_
  rw[hp2];exact h w' _ (I.o8 _) zB
theorem alO (hu:A.units+1<cLine)(I:aJ X ah σ H s)(g:mT H a y o)(ry:bG y u)(h:∀s',aJ X ah σ H s'->Q (.bool o.isSome) s'):
  wpAny (model X.prog X.w) A (compareOp .In u (.ref a)) Q E s:=by
 rcases g with⟨aK,k,e,ey,l⟩|⟨aK,k,b,e,ey,eb,l⟩
 ·subst ey
  obtain⟨z,hd,vs,jJ,dd⟩:=rF I.cA e;refine wpAny_in_of (rE ry) hd dd.mapOf ?_
  rw[<-(jJ.val k).j_,<-l];exact h _ (I.o8 _)
 ·subst ey
  cases (show u=Value.ref b from ry)
  obtain⟨z,hd,xs,jJ,dd⟩:=tR I.cA e;refine wpAny_in_heap (zcw hu) (qF I.cA eb) hd dd ?_
  have q:=(jJ.val k).j_
  rw[zdF] at q;rw[<-q,<-l];exact h _ (I.o8 _)
theorem Rx (hu:A.units+1<cLine)(I:aJ X ah σ H s)(g:mT H a y o)(ry:bG y u)(h:∀s',aJ X ah σ H s'->Q (.bool (!o.isSome)) s'):
  wpAny (model X.prog X.w) A (compareOp .NotIn u (.ref a)) Q E s:=by
 rcases g with⟨aK,k,e,ey,l⟩|⟨aK,k,b,e,ey,eb,l⟩
 ·subst ey
  obtain⟨z,hd,vs,jJ,dd⟩:=rF I.cA e;refine wpAny_notIn_of (rE ry) hd dd.mapOf ?_
  rw[<-(jJ.val k).j_,<-l];exact h _ (I.o8 _)
 ·subst ey
  cases (show u=Value.ref b from ry)
  obtain⟨z,hd,xs,jJ,dd⟩:=tR I.cA e;refine wpAny_notIn_heap (zcw hu) (qF I.cA eb) hd dd ?_
  have q:=(jJ.val k).j_
  rw[zdF] at q;rw[<-q,<-l];exact h _ (I.o8 _)
theorem zE (I:aJ X ah σ H s)(mu:Mut (H a))(hs:Heap.SameBut a s.heap h')(he:∃q,h'.get? a=some q)(new:bZ X.prog X.w (bu H a ob) h' a ob):
  aJ X ah σ (bu H a ob) {s with heap:=h',toks:=t' }:=
 I.jH (x:=a) (e:=a) mu (.inl rfl) (λb q hb z=>(hs.2 b hb).trans z) he new
theorem LJ (z:aK.length<=sizeLine)(hd:(a == sysModules)=false)(jJ:KV aK vs)(dd:h'.DictOf (bS P w) a vs):
  bZ P w H' h' a (.dK aK):=⟨z,hd,vs,jJ,dd⟩
theorem Jc (hu:A.units+1<cLine)(I:aJ X ah σ H s)(g:tS H a y v H')(ry:bG y u)(rv:bG v r)(h:∀s',aJ X ah σ H' s'->Q () s'):
  wpAny (model X.prog X.w) A (setItem (.ref a) u r) Q E s:=by
 rcases g with⟨aK,k,e,ey,l,eH⟩|⟨aK,k,b,e,ey,eb,l,eH⟩
 ·subst ey eH
  obtain⟨z,hd,vs,jJ,dd⟩:=VL I.cA e;have hz:vs.length<=sizeLine:=by rw[<-jJ.length];exact z
  have hl:(j9 aK k v).length<=sizeLine:=by have:=mS aK k v;omega
  refine wpAny_setItem_pairs (hsz:=hz) (rE ry) dd λh' DP hs=>h _ ?_
  have he:∃q,h'.get? a=some q:=let ⟨q,_,_,hq,_⟩:=DP;⟨q,hq⟩
  exact zE I (by rw[e];exact True.intro) hs he (LJ hl hd (jJ.zD k rv) DP)
 ·subst ey eH
  cases (show u=Value.ref b from ry)
  obtain⟨z,hd,xs,jJ,dd⟩:=agA I.cA e;have hz:xs.length<=sizeLine:=by rw[<-Paired.length jJ];exact z
  have hl:(j9 aK k v).length<=sizeLine:=by have:=mS aK k v;omega
  refine wpAny_setItem_heap (hsz:=hz) (zcw hu) (qF I.cA eb) dd λh' DP hs=>h _ ?_
  obtain⟨q,es,ep,hq,h2,h3,h4,_,h5⟩:=DP;refine zE I (by rw[e];exact True.intro) hs ⟨q,hq⟩ ⟨hl,hd,_,(jJ.zD k eb rv).keeps λc ys ec=>?_,q,es,ep,hq,h2,h3,h4,h5⟩
  rw[av (afP ec e (λz=>nomatch z))]
  exact ec
theorem agB (I:aJ X ah σ H s)(e:Rd H a (.dK aK))(h:∀t s',aJ X ah σ H s'->Q (.int aK.length t) s'):wpAny (model X.prog X.w) A (call (.builtin "len") [.ref a]) Q E s:=by
 obtain⟨z,hd,vs,jJ,dd⟩:=rF I.cA e;refine call_len_dict hd dd (by rw[<-jJ.length];rw[zee] at z;omega) ?_
 rw[<-jJ.length];exact h _ _ (I.o8 _)
noncomputable def Ry (i:Expr):Prop:=∀ov iv,subscripted i false ov iv=operate [ov,iv] (getItem ov iv)
theorem Rz {prog:Program}{w:World}{A:Around}{E:Value->Shared->Prop}{s:Shared}{env:Env}{value slice:Expr}{pos:Pos}{T id:String}{Q:Value->Shared->Prop}
  (hl:typeLookup (.type T) "__getitem__"=pure (some (.builtin id))) (hs:Ry slice)
  (h:wpAny (model prog w) A (eval value env) (λo cN=>wpAny (model prog w) A (eval slice env) (λi mQ=>mQ.TypeIs o T/\wpAny (model prog w) A (getItem o i) Q E mQ) E cN) E s):
  wpAny (model prog w) A (eval (.Subscript value slice pos) env) Q E s:=by
 refine Subscript_ (zaQ h (λo cN RA=>zaQ RA (λi mQ LK=>?_) λ_ _ x=>x) λ_ _ x=>x)
 obtain⟨hT,LK⟩:=LK;unfold subscriptTail;refine zaa ?_
 rw[getitemInPython_of_ne hT.not_modules];refine zaa (zdZ hT hl ?_)
 have fS:wpAny (model prog w) A (subscripted slice false o i) (λr wX=>wpAny (model prog w) A (letTemporaryGo value o r >>= λ_=>pure r) Q E wX) E mQ:=by
  rw[hs o i];exact wpAny_operating (zaQ LK (λr wX RB=>zaa (wpAny_letTemporaryGo (zac RB))) λ_ _ x=>x)
 first
  |exact zac (zaa fS)
  |exact zaa (zac (zaa fS))
  |exact zaa fS
theorem Bq (I:aJ X ah σ H s)(g:mT H a y o):s.TypeIs (.ref a) "dict" := by
 rcases g with⟨aK,k,e,_,_⟩|⟨aK,k,b,e,_,_,_⟩
 ·obtain⟨_,_,vs,_,dd⟩:=rF I.cA e
  exact dd.typeIs
 ·obtain⟨_,_,xs,_,dd⟩:=tR I.cA e
  exact dd.typeIs
noncomputable def agC (td ty:TE):TE:=λσ H Q=>td σ H λx H1=>ty σ H1 λy H2=>∃a v,x = .ref a/\mT H2 a y (some v)/\Q v H2
noncomputable def aaa (ty td:TE):TE:=λσ H Q=>ty σ H λy H1=>td σ H1 λx H2=>∃a o,x = .ref a/\mT H2 a y o/\Q (.bl o.isSome) H2
noncomputable def zF (ty td:TE):TE:=λσ H Q=>ty σ H λy H1=>td σ H1 λx H2=>∃a o,x = .ref a/\mT H2 a y o/\Q (.bl (!o.isSome)) H2
noncomputable def agD (td ty tv:TE):TS:=λD σ H=>tv σ H λv H1=>td σ H1 λx H2=>ty σ H2 λy H3=>∃a H4,x = .ref a/\tS H3 a y v H4/\D.nx σ H4
theorem GH (hu:X.A.units+1<cLine)(ho:PE X o td)(hi:PE X i ty)(hs:Ry i):PE X (.Subscript o i pos) (agC td ty):=by
 intro ah s σ H Q I h;refine Rz PySem.F.slot_dict_getitem.lookup hs (cM (ho ah s σ H _ I h) λu s1 ⟨x,H1,I1,rx,q1⟩=>cM (hi ah s1 σ H1 _ I1 q1) λiv s2 ⟨y,H2,I2,ry,a,v,ex,g,q2⟩=>?_)
 subst ex;obtain rfl:u=Value.ref a:=rx
 exact⟨Bq I2 g,Jb hu I2 g ry λw' s3 I3 zB=>⟨v,H2,I3,zB,q2⟩⟩
theorem LL (hu:X.A.units+1<cLine)(hi:PE X i ty)(ho:PE X o td):PC X .In i o (aaa ty td):=by
 intro ah s σ H Q I h;refine cM (hi ah s σ H _ I h) λiv s1 ⟨y,H1,I1,ry,q1⟩=>cM (ho ah s1 σ H1 _ I1 q1) λu s2 ⟨x,H2,I2,rx,a,ov,ex,g,q2⟩=>?_
 subst ex;obtain rfl:u=Value.ref a:=rx
 exact alO hu I2 g ry λs3 I3=>⟨.bl ov.isSome,H2,I3,rfl,q2⟩
theorem Jd (hu:X.A.units+1<cLine)(hi:PE X i ty)(ho:PE X o td):PC X .NotIn i o (zF ty td):=by
 intro ah s σ H Q I h;refine cM (hi ah s σ H _ I h) λiv s1 ⟨y,H1,I1,ry,q1⟩=>cM (ho ah s1 σ H1 _ I1 q1) λu s2 ⟨x,H2,I2,rx,a,ov,ex,g,q2⟩=>?_
 subst ex;obtain rfl:u=Value.ref a:=rx
 exact Rx hu I2 g ry λs3 I3=>⟨.bl (!ov.isSome),H2,I3,rfl,q2⟩
theorem GI (hu:X.A.units+1<cLine)(ho:PE X o td)(hi:PE X i ty)(hv:PE X value tv)(hs:swapsWith value (some (.Subscript o i jD)) pos.line X.env=pure false):
  PS X (.Assign [.Subscript o i jD] value pos) (agD td ty tv):=by
 intro ah s σ H D I h;refine wpAny_Assign_Subscript (cM (hv ah s σ H _ I h) λr s1 ⟨v,H1,I1,rv,q1⟩=>cM (ho ah s1 σ H1 _ I1 q1) λu s2 ⟨x,H2,I2,rx,q2⟩=>cM (hi ah s2 σ H2 _ I2 q2) λiv s3 ⟨y,H3,I3,ry,a,H4,ex,g,q3⟩=>?_) hs
 subst ex;obtain rfl:u=Value.ref a:=rx
 exact Jc hu I3 g ry rv λs4 I4=>⟨σ,H4,I4,q3⟩
theorem Br (h:Heap)(hb:sysModules<h.objs.size):bZ P w H (h.push { cls:=.type "dict",data:=.dict #[]}) h.objs.size (.dK []):=
 ⟨zcA _,beq_eq_false_iff_ne.mpr (zbg (zaq hb)),[],.nil,Heap.DictOf.new h⟩
theorem LM (h:Heap)(hb:sysModules<h.objs.size):bZ P w H (h.push { cls:=.type "dict",data:=.dict #[]}) h.objs.size (.dT []):=
 ⟨zcA _,beq_eq_false_iff_ne.mpr (zbg (zaq hb)),[],.nil,_,#[],0,zao _ rfl,⟨rfl,rfl,rfl⟩,rfl,rfl,List.nodup_nil⟩
noncomputable def aab:TE:=λ_ H Q=>∀p,H p=none->Q (.ref p) (bu H p (.dK []))
noncomputable def aac:TE:=λ_ H Q=>∀p,H p=none->Q (.ref p) (bu H p (.dT []))
theorem LN:PE X (.Dict [] [] pos) aab:=λah s σ H Q I h =>
 wpAny_Dict_empty ⟨.ref s.heap.objs.size,_,I.jA (a:=s.heap.objs.size) (o:=.dK []) (t':=s.toks) (λ_ _ q=>zab _ q) (zaf _) (Br s.heap I.big),rfl,h _ (I.cA.fresh (zaf _))⟩
theorem LO:PE X (.Dict [] [] pos) aac:=λah s σ H Q I h =>
 wpAny_Dict_empty ⟨.ref s.heap.objs.size,_,I.jA (a:=s.heap.objs.size) (o:=.dT []) (t':=s.toks) (λ_ _ q=>zab _ q) (zaf _) (LM s.heap I.big),rfl,h _ (I.cA.fresh (zaf _))⟩
noncomputable def zG:List (TE×TE)->St->Hp->(List (V×V)->Hp->Prop)->Prop
 |[],_,H,Q=>Q [] H
 | (tk,tv)::r,σ,H,Q=>tk σ H λx H1=>tv σ H1 λy H2=>zG r σ H2 λps H3=>Q ((x,y)::ps) H3
noncomputable abbrev VV:List (V×V)->List (Value×Value)->Prop:=Paired λp q=>bG p.1 q.1/\bG p.2 q.2
noncomputable def PPs (X:Cx)(pos:Pos)(qC:List (Option Expr))(qG:List Expr)(VM:List (TE×TE)):Prop:=
 ∀(ah:List (Addr×Obj)) (s:Shared) (σ:St) (H:Hp) (Q:List (V×V)->Hp->Prop),aJ X ah σ H s->zG VM σ H Q ->
  wpAny (model X.prog X.w) X.A (evalPairs (pairTrees qC qG X.env pos)) (λvs s'=>∃ps H',aJ X ah σ H' s'/\VV ps vs/\Q ps H') X.xe s
theorem RC:PPs X pos [] [] []:=λah s σ H Q I h=>pairTrees_nil_walk ⟨[],H,I,.nil,h⟩
theorem LP (hk:PE X k tk)(hv:PE X v tv)(hr:PPs X pos ks vs VM):
  PPs X pos (some k::ks) (v::vs) ((tk,tv)::VM):=λah s σ H Q I h =>
 pairTrees_cons_walk (cM (hk ah s σ H _ I h) λu s1 ⟨x,H1,I1,rx,q1⟩=>cM (hv ah s1 σ H1 _ I1 q1) λw2 s2 ⟨y,H2,I2,ry,q2⟩ =>
  cM (hr ah s2 σ H2 _ I2 q2) λws s3 ⟨ps,H3,I3,jJ,q3⟩=>⟨(x,y)::ps,H3,I3,.cons ⟨rx,ry⟩ jJ,q3⟩)
noncomputable def gn (aK jS:List (dh×V)):List (dh×V):=jS.foldl (λbU kv=>j9 bU kv.1 kv.2) aK
theorem KV.Bt:∀{jS:List (dh×V)} {rs:List (dh×Value)} {aK:List (dh×V)} {vs:List (dh×Value)},KV jS rs->KV aK vs->KV (gn aK jS) (merged vs rs):=by
 intro jS rs aK vs r;unfold KV at r;induction r generalizing aK vs with
 |nil=>intro q;exact q
 | @cons p q ps qs h t ih =>
  intro r0;have e:KV (j9 aK p.1 p.2) (stored vs q.1 q.2):=by
   have:=r0.zD p.1 h.2
   rw[<-h.1];exact this
  exact ih e
theorem oA:∀(jS aK:List (dh×V)),(gn aK jS).length<=aK.length+jS.length
 |[],aK=>by show aK.length<=aK.length+0;omega
 |p::r,aK=>by
  have h1:=oA r (j9 aK p.1 p.2)
  have h2:=mS aK p.1 p.2;show (gn (j9 aK p.1 p.2) r).length<=_
  rw[zar];omega
theorem tT:∀{aK:List (dh×V)} {ws:List (Value×Value)},VV (aK.map λkv=>(kV kv.1,kv.2)) ws->∃rs,Carries (bS P w) ws rs/\KV aK rs
 |[],_,r=>by rw[zaJ] at r;cases r;exact⟨[],True.intro,.nil⟩
 |p::aK,_,r=>by
  rw[zat] at r;cases r with
  | @cons a b as bs h t =>
   obtain⟨rs,c,q⟩:=tT (P:=P) (w:=w) t
   obtain⟨b1,b2⟩:=b;exact⟨(p.1,b2)::rs,⟨rE h.1,rfl,c⟩,.cons ⟨rfl,h.2⟩ q⟩
noncomputable def agE (VM:List (TE×TE)):TE:=λσ H Q=>∀p,H p=none->zG VM σ (bu H p (.dK [])) λps H2=>H2 p=some (.dK [])/\∃aK:List (dh×V),ps=aK.map (λkv=>(kV kv.1,kv.2))/\aK.length<=15/\Q (.ref p) (bu H2 p (.dK (gn [] aK)))
theorem RD {X:Cx}{pos:Pos}{qC:List (Option Expr)}{qG:List Expr}{VM:List (TE×TE)}(h:PPs X pos qC qG VM)(Ex:qC.all (·.isSome)=true)(hl:qC.length=qG.length)(h0:qC≠[])
  (h15:qC.length<=15):PE X (.Dict qC qG pos) (agE VM):=by
 intro ah s σ H Q I q;have hn:=I.cA.fresh (zaf s.heap.objs.size)
 have I1:=I.jA (a:=s.heap.objs.size) (o:=.dK []) (h':=s.heap.push { cls:=.type "dict",data:=.dict #[]}) (t':=s.toks) (λ_ _ q=>zab _ q) (zaf _) (Br s.heap I.big)
 refine wpAny_Dict_walk (knd:=bS X.prog X.w) Ex hl h0 h15 (cM (h ah _ σ _ _ I1 (q _ hn)) λws s2 ⟨ps,H2,I2,jJ,e,aK,ep,lk,q2⟩=>?_)
 subst ep;obtain⟨rs,c,rk⟩:=tT (P:=X.prog) (w:=X.w) jJ
 obtain⟨z,hd,vs0,r0,dd⟩:=VL I2.cA e;cases r0;refine⟨rs,c,dd,λh' DP hs=>⟨.ref s.heap.objs.size,_,?_,rfl,q2⟩⟩
 have hz:(gn [] aK).length<=sizeLine:=by
  have h1:=oA aK []
  rw[zba] at h1;rw[zee];omega
 have he:∃q,h'.get? s.heap.objs.size=some q:=let ⟨q,_,_,hq,_⟩:=DP;⟨q,hq⟩
 exact zE I2 (by rw[e];exact True.intro) hs he (LJ hz hd (rk.Bt .nil) DP)
structure M2 (X:Cx) (o:Expr) (m:Str) (eO:Pos) (e f:Expr) (fZ:Pos):Prop where
 base:attributeBase o m X.env (eval o X.env)=eval o X.env
 few:((backTo fZ (starEach [e,f] X.env)).all (λx=>!x.1) && (backToKw fZ (keywordEach [] X.env)).all (λx=>x.1.isSome)
  && decide (([e,f]:List Expr).length+([]:List Keyword).length+(if ([]:List Keyword).isEmpty then 0 else 1)<30))=true
 line:(eO.endLine == fZ.line)=true
 agG:backTo fZ (starEach [e,f] X.env)=[(false,eval e X.env),(false,eval f X.env)]
noncomputable def IsD (H:Hp)(a:Addr):Prop:=(∃aK,Rd H a (.dK aK))\/∃aK,Rd H a (.dT aK)
theorem aad (I:aJ X ah σ H s)(d:IsD H a):
  s.TypeIs (.ref a) "dict" /\ (∀b,Value.ref a = .ref b->∃ob,s.heap.get? b=some ob/\ob.dict=none)/\(a == sysModules)=false:=by
 rcases d with⟨aK,e⟩|⟨aK,e⟩
 ·obtain⟨_,hd,vs,_,dd⟩:=rF I.cA e
  refine⟨dd.typeIs,λb q=>?_,hd⟩
  cases q;obtain⟨ob,_,_,h1,h2,_⟩:=dd;exact⟨ob,h1,h2.2.1⟩
 ·obtain⟨_,hd,xs,_,dd⟩:=tR I.cA e
  refine⟨dd.typeIs,λb q=>?_,hd⟩
  cases q;obtain⟨ob,_,_,h1,h2,_⟩:=dd;exact⟨ob,h1,h2.2.1⟩
theorem aae (hu:A.units+1<cLine)(I:aJ X ah σ H s)(g:mT H a y o)(ry:bG y u)(rd:bG d r)(h:∀w' s',aJ X ah σ H s'->bG (o.getD d) w'->Q w' s'):
  wpAny (model X.prog X.w) A (call (.builtin "dict.get") [.ref a,u,r]) Q E s:=by
 rcases g with⟨aK,k,e,ey,l⟩|⟨aK,k,b,e,ey,eb,l⟩
 ·subst ey
  obtain⟨z,hd,vs,jJ,dd⟩:=rF I.cA e;refine call_meetsIn zdf dd.typeIs zeg (zdU _ _ _) (meets_dict_get_default (bS X.prog X.w) a (rE ry) hd r) ⟨_,dd.mapOf,h _ _ (I.o8 _) ?_⟩
  rw[l];exact (jJ.val k).getD rd
 ·subst ey
  cases (show u=Value.ref b from ry)
  obtain⟨z,hd,xs,jJ,dd⟩:=tR I.cA e;refine call_meetsIn zdf dd.typeIs zeg (zdU _ _ _) (meetsH_dict_get_default (tupleKind (bS X.prog X.w)) a b hd r) ⟨zcw hu,k,xs,qF I.cA eb,dd,h _ _ (I.o8 _) ?_⟩
  rw[l];exact (jJ.val k).getD rd
noncomputable def aaf (td ty tx:TE):TE:=λσ H Q=>td σ H λx H1=>∃a,x = .ref a/\IsD H1 a/\ty σ H1 λy H2=>tx σ H2 λz H3=>∃o,mT H3 a y o/\Q (o.getD z) H3
theorem Bu (hu:X.A.units+1<cLine)(ho:PE X o td)(he:PE X e ty)(hf:PE X f tx)(m:M2 X o "get" eO e f fZ):PE X (.Call (.Attribute o "get" eO) [e,f] [] fZ) (aaf td ty tx):=by
 intro ah s σ H Q I h;refine wpAny_Call_method m.base m.few m.line PySem.F.plainAttrs_dict zdf PySem.F.type_dict_get (cM (ho ah s σ H _ I h) λu s1 ⟨x,H1,I1,rx,a,ex,d,q1⟩=>?_)
 subst ex;obtain rfl:u=Value.ref a:=rx
 obtain⟨t1,t2,_⟩:=aad I1 d;refine⟨t1,t2,?_⟩
 rw[m.agG];refine zcB rfl (zdi (zdw (cM (he ah s1 σ H1 _ I1 q1) λiv s2 ⟨y,H2,I2,ry,q2⟩ =>
  zdw (cM (hf ah s2 σ H2 _ I2 q2) λfv s3 ⟨z,H3,I3,rz,ov,g,q3⟩=>Calls.spliced_nil ?_))))
 exact aae hu I3 g ry rz λw' s4 I4 zB=>⟨_,H3,I4,zB,q3⟩
end L2
namespace HT
open PySem PyProof.Rows
section
open PySem.SeqAt
open PySem.AutoSeq1 (wpAny_loadPart')
open PySem.MeetsSeq PySem.MeetsSeq2 PySem.MeetsSeq3
end
theorem RE (ht:IsTup s.heap t vs.toArray)(hb:IsTup s.heap b ws.toArray)(hv:vs≠[])
  (h1:ws=[]->Q (.ref t) s) (h2:ws≠[]->Q (.ref s.heap.objs.size) { s with heap:=s.heap.push { cls:=.type "tuple",data:=.seq (vs++ws).toArray} })
  (hsz:vs.length+ws.length<=sizeLine):wpAny (model prog w) A (binaryOp .Add (.ref t) (.ref b)) Q E s:=by
 obtain⟨⟨cls,dd,data,sl⟩,ho,hc,n,hd⟩:=id ht
 obtain⟨⟨aqD,dd2,aoT,LQ⟩,ho2,RG,n2,hd2⟩:=id hb
 simp only at hc hd RG hd2
 subst hc hd RG hd2;have e:vs.toArray++ws.toArray=(vs++ws).toArray:=by simp
 by_cases hw:ws=[]
 ·exact concat_meets ⟨_,ho,rfl⟩ ⟨_,ho2,rfl⟩ noFill_tuple_add seq_tuple_add zeh zdV (zdP _ _)
   (tuple_addW1 t b vs.toArray ws.toArray n n2 dd dd2 sl LQ (by simpa using hv) (by simp[hw])) ⟨ho,ho2,h1 hw⟩
 ·refine concat_meets ⟨_,ho,rfl⟩ ⟨_,ho2,rfl⟩ noFill_tuple_add seq_tuple_add zeh zdV (zdP _ _)
   (tuple_addW2 t b vs.toArray ws.toArray n n2 dd dd2 sl LQ (by simpa using hv) (by simpa using hw) (by rw[zam,zam];exact hsz)) ⟨ho,ho2,?_⟩
  rw[e];exact h2 hw
noncomputable def gC (n d:Nat):Option Int->Nat
 |none=>d
 |some v=>if v<0 then (v+(n:Int)).toNat else min v.toNat n
theorem RH (n d k:Nat):gC n d (some (k:Int))=min k n:=by
 show (if (k:Int)<0 then ((k:Int)+(n:Int)).toNat else min (k:Int).toNat n)=min k n
 rw[if_neg (by omega),zbn]
theorem aag (n d:Nat)(hd:d<=n)(o:Option Int):gC n d o<=n:=by
 cases o with
 |none=>exact hd
 |some v =>
  show (if v<0 then (v+(n:Int)).toNat else min v.toNat n)<=n
  by_cases hv:v<0
  ·rw[if_pos hv];omega
  ·rw[if_neg hv];exact Nat.min_le_right _ _
theorem GJ (v:Int)(n d:Nat):(if v<0 then max (v+(n:Int)) 0 else min v (n:Int))=((gC n d (some v):Nat):Int):=by
 show (if v<0 then max (v+(n:Int)) 0 else min v (n:Int))=(((if v<0 then (v+(n:Int)).toNat else min v.toNat n):Nat):Int)
 by_cases hv:v<0
 ·simp only[if_pos hv];omega
 ·simp only[if_neg hv];omega
theorem Ey (lo hi:Option Int)(n:Nat):Builtin.Slice.sliceAdjust lo hi 1 (n:Int)=(((gC n 0 lo:Nat):Int),((gC n n hi:Nat):Int)):=by
 have h1:¬ ((1:Int)<0):=by omega
 unfold Builtin.Slice.sliceAdjust;simp only[h1,if_false];refine Prod.ext ?_ ?_
 ·cases lo with
  |none=>rfl
  |some v=>exact GJ v n 0
 ·cases hi with
  |none=>rfl
  |some v=>exact GJ v n n
theorem Ez (i j:Nat):Builtin.Slice.slicePlaces (i:Int) (j:Int) 1=j - i:=by
 unfold Builtin.Slice.slicePlaces;have h1:(1:Int) > 0:=by omega
 simp only[h1,if_true,Int.ediv_one];split<;>omega
theorem tU (p:IsPart v o)(h:Q o s):wpAny (model prog w) A (Builtin.Slice.slicePartIndex v) Q E s:=by
 cases p with
 |none=>exact slicePart_none h
 |int i t=>exact slicePart_int h
theorem qH {sl:Addr}{vl vu:Value}{lo hi:Option Int}{n:Nat}{Q:Int×Int×Nat->Shared->Prop}(hs:s.heap.IsSliceOf sl vl vu .none)(pl:IsPart vl lo)(pu:IsPart vu hi)
  (h:Q (((gC n 0 lo:Nat):Int),1,gC n n hi - gC n 0 lo) s):wpAny (model prog w) A (Builtin.Slice.sliceApplied (.ref sl) (pure (n:Int))) Q E s:=by
 obtain⟨os,K4,VN,VO⟩:=id hs;unfold Builtin.Slice.sliceApplied Builtin.Slice.sliceFields;refine zaa (zaa (zax K4 VO (x:=vl) rfl (zaa (zax K4 VO (x:=vu) rfl (zaa (zax K4 VO (x:=.none) rfl (zac ?_)))))))
 refine zaa (slicePart_none ?_)
 show wpAny _ _ (if ((1:Int) == 0)=true then _ else _) _ _ s
 rw[if_neg (by decide)]
 refine zaa (tU pl (zaa (tU pu (zaa (zac ?_)))))
 show wpAny _ _ (match Builtin.Slice.sliceAdjust lo hi 1 (n:Int) with | (lo,hi)=>pure (lo,(1:Int),Builtin.Slice.slicePlaces lo hi 1)) _ _ s
 rw[Ey lo hi n];show wpAny _ _ (pure (((gC n 0 lo:Nat):Int),(1:Int),Builtin.Slice.slicePlaces ((gC n 0 lo:Nat):Int) ((gC n n hi:Nat):Int) 1)) _ _ s
 rw[Ez];exact zac h
theorem LR (xs:Array Value)(i k:Nat):((List.range k).filterMap λ(m:Nat)=>xs[((i:Int)+(m:Int) * 1).toNat]?).toArray=((xs.toList.drop i).take k).toArray:=by
 have e:(λ(m:Nat)=>xs[((i:Int)+(m:Int) * 1).toNat]?)=λm=>xs[i+m]?:= by
  funext m
  have:((i:Int)+(m:Int) * 1).toNat=i+m:=by omega
  rw[this]
 rw[e]
 have:=pick_run xs i k
 rw[List.filterMap_map] at this;have e2:((λx=>xs[x]?) ∘ λx=>i+x)=λm=>xs[i+m]?:= rfl
 rw[e2] at this;rw[this]
theorem pD {t sl:Addr}{items:Array Value}{vl vu:Value}{lo hi:Option Int}{Q:Value->Shared->Prop}(ht:IsTup s.heap t items)(hs:s.heap.IsSliceOf sl vl vu .none)(pl:IsPart vl lo)(pu:IsPart vu hi)
  (hw:¬ (gC items.size 0 lo=0/\gC items.size items.size hi=items.size))
  (h:Q (.ref s.heap.objs.size) { s with heap:=s.heap.push { cls:=.type "tuple",data:=.seq ((items.toList.drop (gC items.size 0 lo)).take (gC items.size items.size hi - gC items.size 0 lo)).toArray} })
  (hsz:items.size<=sizeLine):wpAny (model prog w) A (getItem (.ref t) (.ref sl)) Q E s:=by
 have GK:sizeOk (.seq ((items.toList.drop (gC items.size 0 lo)).take (gC items.size items.size hi - gC items.size 0 lo)).toArray):=by
  show ((items.toList.drop (gC items.size 0 lo)).take (gC items.size items.size hi - gC items.size 0 lo)).toArray.size<=sizeLine
  rw[zam,zaG,zdd,zdq];omega
 have hj:gC items.size items.size hi<=items.size:=aag _ _ (zaf _) hi
 obtain⟨os,K4,VN,VO⟩:=id hs;have hTs:s.TypeIs (.ref sl) "slice" := ⟨os,K4,VN⟩
 unfold getItem;try with_reducible refine zaH ?_
 first|refine zaa (zac ?_)|skip
 refine zaa (wpAny_sequenceKey ht.typeIs (by decide) ?_)
 refine zaa (zaN (name:=Str.ofString "__getitem__") ht.typeIs zct
  (zbj zct ht.typeIs entry_tuple_getitem ?_ (args_tuple_getitem _ _)))
 show wpAny _ _ (Builtin.Tuple.tupleItemsOf (.ref t) >>= _) _ _ s
 refine zaa (tupleItemsOf_ ht ?_)
 refine zaa (zdj hTs ?_)
 rw[if_pos (by decide)]
 refine zaa (qH hs pl pu ?_)
 have hno:¬ ((((gC items.size 0 lo:Nat):Int) == 0 && (1:Int) == 1 && (gC items.size items.size hi - gC items.size 0 lo) == items.size)=true):=by
  intro q;rw[zcG,zcG] at q;have q1:((gC items.size 0 lo:Nat):Int)=0:=eq_of_beq q.1.1
  have q2:gC items.size items.size hi - gC items.size 0 lo=items.size:=eq_of_beq q.2
  exact hw ⟨by omega,by omega⟩
 show wpAny _ _ (if (((gC items.size 0 lo:Nat):Int) == 0 && (1:Int) == 1 && (gC items.size items.size hi - gC items.size 0 lo) == items.size)=true then _ else _) _ _ s
 rw[if_neg hno,LR];first
  |exact zaa (m:=Builtin.Tuple.tupleExact _) (zaO (zac ⟨_,rfl,zac h⟩) GK)
  |exact zaa (m:=Builtin.Tuple.tupleExact _) (zaO (zaa (zac (zac ⟨_,rfl,zac h⟩))) GK)
  |exact zaa (zaa (m:=Builtin.Tuple.tupleExact _) (zaO (zac (zac ⟨_,rfl,zac h⟩)) GK))
  |exact zaa (zaa (m:=Builtin.Tuple.tupleExact _) (zaO (zac ⟨_,rfl,zac h⟩) GK))
end HT
namespace L2
open PySem PySem.Spec PyProof.Rows
noncomputable abbrev TO:=St->Hp->(Option Int->Hp->Prop)->Prop
noncomputable def PO (X:Cx)(e:Option Expr)(t:TO):Prop:=
 ∀(ah:List (Addr×Obj)) (s:Shared) (σ:St) (H:Hp) (Q:Option Int->Hp->Prop),aJ X ah σ H s->t σ H Q ->
  wpAny (model X.prog X.w) X.A (evalPart e X.env) (λu s'=>∃o H',aJ X ah σ H' s'/\IsPart u o/\Q o H') X.xe s
noncomputable def RI:TO:=λ_ H Q=>Q none H
noncomputable def agI (t:TE):TO:=λσ H Q=>t σ H λx H1=>∃i,x = .int i/\Q (some i) H1
theorem EA:∀{us:List Value},bA (ns.map V.int) us->IntsAre us ns:=by
 induction ns with
 |nil=>intro us r;rw[zaJ] at r;cases r;exact .nil
 |cons n ns ih =>
  intro us r;rw[zat] at r;cases r with
  |cons r1 r2 =>
   obtain⟨t,e⟩:=r1;subst e;exact .cons n t (ih r2)
section
variable {X:Cx}{e:Expr}{te:TE}{lo hi:Option Expr}{tl th:TO}{pos p2:Pos}
theorem RJ:PO X none RI:=by
 intro ah s σ H Q I h;rw[evalPart_none];exact zac ⟨none,H,I,.none,h⟩
theorem zH (h:PE X e te):PO X (some e) (agI te):=by
 intro ah s σ H Q I hw;rw[evalPart_some];refine cM (h ah s σ H _ I hw) λu s1 ⟨x,H1,I1,r1,q1⟩=>?_
 obtain⟨i,rfl,q⟩:=q1;obtain⟨t,rfl⟩:=r1;exact⟨some i,H1,I1,.int i t,q⟩
noncomputable def SlR (X:Cx)(r:V->Option Int->Option Int->Hp->VK->Prop):Prop:=
 ∀(ah:List (Addr×Obj)) (s:Shared) (σ:St) (H:Hp) (x:V) (v vl vu:Value) (lo hi:Option Int) (sl:Addr) (Q:VK),aJ X ah σ H s->bG x v->s.heap.IsSliceOf sl vl vu .none->IsPart vl lo->IsPart vu hi->r x lo hi H Q ->
  ∃T id,typeLookup (.type T) "__getitem__"=pure (some (.builtin id))/\s.TypeIs v T/\wpAny (model X.prog X.w) X.A (getItem v (.ref sl)) (EP X ah σ Q) X.xe s
noncomputable def tSl (r:V->Option Int->Option Int->Hp->VK->Prop)(te:TE)(tl th:TO):TE:=λσ H Q=>te σ H λx H1=>tl σ H1 λl H2=>th σ H2 λu H3=>r x l u H3 Q
theorem LS (hr:SlR X r)(he:PE X e te)(hl:PO X lo tl)(hu:PO X hi th):PE X (.Subscript e (.Slice lo hi none p2) pos) (tSl r te tl th):=by
 intro ah s σ H Q I h;refine Subscript_ (cM (he ah s σ H _ I h) λv s1 ⟨x,H1,I1,r1,q1⟩=>?_)
 refine wpAny_Slice (cM (hl ah s1 σ H1 _ I1 q1) λvl s2 ⟨l,H2,I2,pl,q2⟩=>cM (hu ah s2 σ H2 _ I2 q2) λvu s3 ⟨u,H3,I3,pu,q3⟩=>?_)
 rw[evalPart_none];refine zac ?_
 have I4:aJ X ah σ H3 { s3 with heap:=s3.heap.push { cls:=.type "slice",data:=.fields #[vl,vu,.none]} }:=I3.gA (t':=s3.toks) λb ob q=>zab _ q
 obtain⟨T,id,hT,ht,hg⟩:=hr ah { s3 with heap:=s3.heap.push { cls:=.type "slice",data:=.fields #[vl,vu,.none]} } σ H3 x v vl vu l u s3.heap.objs.size Q I4 r1 (Heap.IsSliceOf.new ..) pl pu q3
 show wpAny (model X.prog X.w) X.A (subscriptTail e (.Slice lo hi none p2) v (.ref s3.heap.objs.size)) (EP X ah σ Q) X.xe { s3 with heap:=s3.heap.push { cls:=.type "slice",data:=.fields #[vl,vu,.none]} }
 exact tail_any (ops:=[.ref s3.heap.objs.size,v]) ht hT hg (by with_unfolding_all rfl)
noncomputable def Bv (xs:List V)(lo hi:Option Int):List V:=(xs.drop (HT.gC xs.length 0 lo)).take (HT.gC xs.length xs.length hi - HT.gC xs.length 0 lo)
theorem rG (xs:List V)(lo hi:Option Int):(Bv xs lo hi).length<=xs.length:=by
 unfold Bv;rw[zaG,zdd];omega
noncomputable def alP (K:PySem.W.Frag):V->Option Int->Option Int->Hp->VK->Prop:=λx lo hi H Q=>∃a xs,x = .ref a/\nJ K H a xs /\
 ¬ (HT.gC xs.length 0 lo=0/\HT.gC xs.length xs.length hi=xs.length)/\∀p,H p=none->Q (.ref p) (bu H p (.fP (Bv xs lo hi)))
theorem aah:SlR X (alP X.K):=by
 intro ah s σ H x v vl vu lo hi sl Q I rx hs pl pu h;obtain⟨a,xs,rfl,hx,hw,q⟩:=h;cases rx;obtain⟨aI,r,ht,hz⟩:=I.fj hx;have c_:aI.toArray.size=xs.length:=by rw[zam];exact r.length.symm
 refine⟨"tuple",_,zct.lookup,ht.typeIs,?_⟩
 refine HT.pD ht hs pl pu (by rw[c_];exact hw) ?_ (by rw[c_];exact hz)
 rw[c_];refine⟨.ref s.heap.objs.size,_,I.jA (t':=s.toks) (o:=.fP (Bv xs lo hi)) (λb ob q=>zab _ q) (zaf _) ?_,rfl,q _ (I.cA.fresh (zaf _))⟩
 exact⟨zai (rG xs lo hi) hz,_,(r.drop (HT.gC xs.length 0 lo)).take (HT.gC xs.length xs.length hi - HT.gC xs.length 0 lo),IsTup.new _ _⟩
noncomputable def agJ (K:PySem.W.Frag):R2:=λx y H Q=>∃a b xs ys,x = .ref a/\y = .ref b/\nJ K H a xs/\nJ K H b ys/\xs≠[]/\xs.length+ys.length<=sizeLine /\
 (ys=[]->Q (.ref a) H)/\(ys≠[]->∀p,H p=none->Q (.ref p) (bu H p (.fP (xs++ys))))
theorem bA.zJ (r:bA xs us):us=[]↔xs=[]:=by
 cases r with
 |nil=>simp
 |cons _ _=>simp
theorem RL:kQ X (binaryOp .Add) (agJ X.K):=by
 intro ah s σ H x y v u Q I rx ry h;obtain⟨a,b,xs,ys,rfl,rfl,ha,hb,hx,hz,q1,q2⟩:=h;cases rx;cases ry;obtain⟨aI,r1,p1,_⟩:=I.fj ha;obtain⟨fY,r2,p2,_⟩:=I.fj hb;refine HT.RE p1 p2 (λz=>hx (r1.zJ.mp z)) (λz=>⟨.ref a,H,I,rfl,q1 (r2.zJ.mp z)⟩) (λz=>?_) (by rw[<-r1.length,<-r2.length];exact hz)
 refine⟨.ref s.heap.objs.size,_,I.jA (t':=s.toks) (o:=.fP (xs++ys)) (λb ob q=>zab _ q) (zaf _) ?_,rfl,q2 (λw=>z (r2.zJ.mpr w)) _ (I.cA.fresh (zaf _))⟩
 exact⟨by rw[zak];exact hz,_,r1.jh r2,IsTup.new _ _⟩
end
noncomputable def zK (n:Nat)(i:Int):Option Nat:=if 0<=i then (if i<n then some i.toNat else none) else if -(n:Int)<=i then some (i+n).toNat else none
noncomputable def jK {α:Type}(xs:List α)(i:Int):Option α:= (zK xs.length i).bind λj=>xs[j]?
theorem GL (h:zK n i=some j):seqIndex? i n=some j/\j<n /\ -(n:Int)<=i/\i<n:=by
 unfold zK at h;by_cases h0:0<=i
 ·rw[if_pos h0] at h
  by_cases h1:i<n
  ·rw[if_pos h1] at h
   have e:i.toNat=j:=zav h
   exact⟨by rw[seqIndex_of h0 h1,e],by omega,by omega,h1⟩
  ·rw[if_neg h1] at h;cases h
 ·rw[if_neg h0] at h
  by_cases h1: -(n:Int)<=i
  ·rw[if_pos h1] at h
   have e:(i+n).toNat=j:=zav h
   exact⟨by rw[seqIndex_neg (by omega) h1,e],by omega,h1,by omega⟩
  ·rw[if_neg h1] at h;cases h
theorem zL {α:Type}{xs:List α}{i:Int}{v:α}(h:jK xs i=some v):∃j,seqIndex? i xs.length=some j/\xs[j]? = some v/\j<xs.length /\ -(xs.length:Int)<=i/\i<xs.length:=by
 unfold jK at h;cases e:zK xs.length i with
 |none=>rw[e] at h;cases h
 |some j =>
  rw[e] at h;obtain⟨h1,h2,h3,h4⟩:=GL e;exact⟨j,h1,h,h2,h3,h4⟩
theorem ic {α:Type}{xs:List α}{j:Nat}{v:α}(h:xs[j]? = some v):jK xs (j:Int)=some v:=by
 have hj:j<xs.length:=(zae.mp h).1
 have e:zK xs.length (j:Int)=some j:=by
  unfold zK;rw[if_pos (by omega),if_pos (by omega)];simp
 unfold jK;rw[e];exact h
noncomputable def GN (b:Expr):Prop:=∀o i,subscripted b false o i=operate [o,i] (getItem o i)
noncomputable def RM (X:Cx)(r:R2):Prop:=
 ∀(value slice:Expr) (ah:List (Addr×Obj)) (s:Shared) (σ:St) (H:Hp) (x y:V) (v u:Value) (Q:VK),aJ X ah σ H s->bG x v->bG y u->r x y H Q ->
  subscripted slice false v u=operate [v,u] (getItem v u)->wpAny (model X.prog X.w) X.A (subscriptTail value slice v u) (EP X ah σ Q) X.xe s
noncomputable def MtR (X:Cx)(id:String)(r:V->List V->Hp->VK->Prop):Prop:=
 ∀(ah:List (Addr×Obj)) (s:Shared) (σ:St) (H:Hp) (x:V) (xs:List V) (v:Value) (us:List Value) (Q:VK),aJ X ah σ H s->bG x v->bA xs us->r x xs H Q ->
  wpAny (model X.prog X.w) X.A (call (.builtin id) (v::us)) (EP X ah σ Q) X.xe s
section
variable {X:Cx}{a b:Expr}{ta tb:TE}{pos:Pos}
theorem RM.or (h:RM X r)(h':RM X r'):RM X (λx y H Q=>r x y H Q\/r' x y H Q):=by
 intro value slice ah s σ H x y v u Q I rx ry q hs;rcases q with q|q
 ·exact h value slice ah s σ H x y v u Q I rx ry q hs
 ·exact h' value slice ah s σ H x y v u Q I rx ry q hs
theorem agK (hr:RM X r)(ha:PE X a ta)(hb:PE X b tb)(hs:GN b):PE X (.Subscript a b pos) (ZU r ta tb):=by
 intro ah s σ H Q I h;exact Subscript_ (ZV ha hb I h λv u s2 x y H2 I2 rx ry q=>hr a b ah s2 σ H2 x y v u Q I2 rx ry q (hs _ _))
noncomputable def agL (K:PySem.W.Frag):R2:=λx y H Q=>∃p xs i v,x = .ref p/\y = .int i/\jC K H p xs/\jK xs i=some v/\Q v H
noncomputable def agM (K:PySem.W.Frag):R2:=λx y H Q=>∃p xs i v,x = .ref p/\y = .int i/\nJ K H p xs/\jK xs i=some v/\Q v H
noncomputable def agN:R2:=λx y H Q=>∃z i c,x = .str z/\y = .int i/\z.length<=sizeLine/\jK z.cps.toList i=some c/\Q (.str ⟨#[c]⟩) H
theorem RN:RM X (agL X.K):=by
 intro value slice ah s σ H x y v u Q I rx ry h hs;obtain⟨p,xs,i,z,rfl,rfl,hq,he,q⟩:=h;cases rx;obtain⟨t,rfl⟩:=ry;obtain⟨aI,r,pl,hz⟩:=I.list hq;obtain⟨j,h1,h2,h3,h4,h5⟩:=zL he;obtain⟨w,ew,zB⟩:=r.get h2;have hl:=r.length;have hn:=qE;have fS:EP X ah σ Q w s:=⟨z,H,I,zB,q⟩
 by_cases h0:0<=i
 ·have hj:i.toNat=j:=by
   rw[seqIndex_of h0 h5] at h1;exact zav h1
  exact item_listR pl.isList h0 (by omega) (by rw[hj];simpa using ew) fS hs
 ·have hj:(i+(aI.toArray.size:Int)).toNat=j:=by
   rw[seqIndex_neg (by omega) h4] at h1
   rw[zam,<-hl];exact zav h1
  exact subscriptTail_builtinR (x:=w) pl.isList.typeIs slot_list_getitem.lookup
   (wpAny_getItem_list_neg (Q:=λr s'=>r=w/\EP X ah σ Q r s') pl.isList (by omega) (by rw[zam]<;>omega) (by omega) (by rw[hj];simpa using ew) ⟨rfl,fS⟩) hs
theorem aai:RM X (agM X.K):=by
 intro value slice ah s σ H x y v u Q I rx ry h hs;obtain⟨p,xs,i,z,rfl,rfl,hq,he,q⟩:=h;cases rx;obtain⟨t,rfl⟩:=ry;obtain⟨aI,r,pl,hz⟩:=I.fj hq;obtain⟨j,h1,h2,h3,h4,h5⟩:=zL he;obtain⟨w,ew,zB⟩:=r.get h2;have hl:=r.length;have hn:=qE;have fS:EP X ah σ Q w s:=⟨z,H,I,zB,q⟩
 exact subscriptTail_builtinR (x:=w) pl.typeIs slot_tuple_getitem.lookup
  (getItem_tuple (j:=j) (Q:=λr s'=>r=w/\EP X ah σ Q r s') pl (by omega) (by omega) (by rw[zam,<-hl];exact h1) (by simpa using ew) ⟨rfl,fS⟩) hs
theorem aaj:RM X agN:=by
 intro value slice ah s σ H x y v u Q I rx ry h hs;obtain⟨z,i,c,rfl,rfl,hz,he,q⟩:=h;obtain⟨t,rfl⟩:=rx;obtain⟨t',rfl⟩:=ry;obtain⟨j,h1,h2,h3,h4,h5⟩:=zL he;have hl:z.cps.toList.length=z.length:=by simp[Str.length]
 rw[hl] at h1 h4 h5;have hn:=qE;exact tail_any (typeIs_str s z t) slot_str_getitem.lookup (getItem_str (c:=c) (by
  have e1:decide (i < -(2 ^ 63:Int))=false:=decide_eq_false (by omega)
  have e2:decide (i ≥ 2 ^ 63)=false:=decide_eq_false (by omega)
  rw[e1,e2,zeB]) (by rw[h1];simpa using h2) ⟨.str ⟨#[c]⟩,H,I.o8 _,⟨_,rfl⟩,q⟩) hs
noncomputable def rIx (K:PySem.W.Frag):R2:=λx y H Q=>agL K x y H Q\/agM K x y H Q\/agN x y H Q
theorem aak:RM X (rIx X.K):=RN.or (aai.or aaj)
theorem EE (aI:List Value)(n j:Nat)(u:Value):Obj.mapSeq (·.setIfInBounds j u) { cls:=.type "list",data:=.seq aI.toArray n} = { cls:=.type "list",data:=.seq (aI.set j u).toArray n}:=by
 simp[Obj.mapSeq]
theorem aJ.aM (I:aJ X ah σ H s)(h:H p=some (.aM xs)):
  ∃(aI:List Value) (n:Nat),bA xs aI/\s.heap.get? p=some { cls:=.type "list",data:=.seq aI.toArray n}/\xs.length<=sizeLine:=by
 obtain⟨z,aI,n,r,e⟩:=I.cA p _ h;exact⟨aI,n,r,e,z⟩
theorem aJ.aal {ah:List (Addr×Obj)}{σ:St}{H:Hp}{s:Shared}{p:Addr}{xs ys:List V}{aI its':List Value}{n n':Nat}{f:Obj->Obj}(I:aJ X ah σ H s)(h:H p=some (.aM xs))
  (ho:s.heap.get? p=some { cls:=.type "list",data:=.seq aI.toArray n}) (hf:f { cls:=.type "list",data:=.seq aI.toArray n} = { cls:=.type "list",data:=.seq its'.toArray n' }) (r:bA ys its') (hz:ys.length<=sizeLine) (t:Nat):
  aJ X ah σ (bu H p (.aM ys)) {s with heap:=s.heap.update p f,toks:=t}:=by
 have e:(s.heap.update p f).get? p=some { cls:=.type "list",data:=.seq its'.toArray n' }:=by
  rw[zaW f ho (by rw[hf]<;>rfl),hf]
 refine I.jH (x:=p) (e:=p) (by rw[h];trivial) (.inl rfl) (λb u hb q=>(zaB _ _ (zbg hb)).trans q) ⟨_,e⟩ ?_
 exact⟨hz,its',n',r,e⟩
noncomputable def agO:V->V->V->Hp->(Hp->Prop)->Prop:=λo i v H Q=>∃p xs k j,o = .ref p/\i = .int k/\H p=some (.aM xs)/\zK xs.length k=some j/\Q (bu H p (.aM (xs.set j v)))
theorem LU:ZK X agO:=by
 intro ah s σ H o i v ov iv u Q I ro ri rv h;obtain⟨p,xs,k,j,rfl,rfl,hp,hj,q⟩:=h;cases ro;obtain⟨t,rfl⟩:=ri;obtain⟨aI,n,r,ho,hz⟩:=I.aM hp;obtain⟨h1,h2,h3,h4⟩:=GL hj;have hl:=r.length;have hn:=qE;have I':aJ X ah σ (bu H p (.aM (xs.set j v))) {s with heap:=s.heap.update p (Obj.mapSeq (·.setIfInBounds j u))}:=
  I.aal hp ho (EE aI n j u) (r.set rv j) (by rw[zdk];exact hz) s.toks
 by_cases h0:0<=k
 ·have hk:k.toNat=j:=by
   rw[seqIndex_of h0 h4] at h1;exact zav h1
  exact PySem.W.ki_setAt ho h0 (by omega) (by rw[zam,<-hl];exact h4) (by rw[hk];exact⟨_,I',q⟩)
 ·have hk:(k+(aI.toArray.size:Int)).toNat=j:=by
   rw[seqIndex_neg (by omega) h3] at h1
   rw[zam,<-hl];exact zav h1
  exact PySem.W.ki_setBack ho (by omega) (by rw[zam,<-hl];exact h3) (by omega) (by rw[hk];exact⟨_,I',q⟩)
theorem zM (lo hi:Option Int)(n:Nat):(sliceBounds lo hi none n).1=((HT.gC n 0 lo:Nat):Int)/\(sliceBounds lo hi none n).2.1=((HT.gC n n hi:Nat):Int)/\(sliceBounds lo hi none n).2.2=1:=by
 refine⟨?_,?_,rfl⟩
 ·cases lo with
  |none=>simp[sliceBounds,HT.gC]
  |some i =>
   simp only[sliceBounds,HT.gC,zdQ,show (1:Int) > 0 by decide,if_true]
   by_cases h:i<0
   ·simp only[h,if_true]<;>omega
   ·simp only[h,if_false]<;>omega
 ·cases hi with
  |none=>simp[sliceBounds,HT.gC]
  |some i =>
   simp only[sliceBounds,HT.gC,zdQ,show (1:Int) > 0 by decide,if_true]
   by_cases h:i<0
   ·simp only[h,if_true]<;>omega
   ·simp only[h,if_false]<;>omega
theorem wY (aI:List Value)(lo hi:Option Int):slicePick aI.toArray lo hi none=((aI.drop (HT.gC aI.length 0 lo)).take (HT.gC aI.length aI.length hi - HT.gC aI.length 0 lo)).toArray:=by
 obtain⟨h1,h2,h3⟩:=zM lo hi aI.toArray.size;unfold slicePick;rw[h1,h2,h3];simp only[sliceRange_one,pick_run,zam]<;>rfl
noncomputable def alQ (K:PySem.W.Frag):V->Option Int->Option Int->Hp->VK->Prop:=λx lo hi H Q=>∃a xs,x = .ref a/\jC K H a xs/\∀p,H p=none->Q (.ref p) (bu H p (.aM (Bv xs lo hi)))
theorem RO:SlR X (alQ X.K):=by
 intro ah s σ H x v vl vu lo hi sl Q I rx hs pl pu h;obtain⟨a,xs,rfl,hx,q⟩:=h;cases rx;obtain⟨aI,r,ht,hz⟩:=I.list hx;have c_:=r.length;refine⟨"list",_,slot_list_getitem.lookup,ht.isList.typeIs,?_⟩
 refine wpAny_getItem_list_slice ht.isList hs pl pu .none (by simp) ?_ (by rw[zam]<;>omega)
 rw[wY,<-c_];refine⟨.ref s.heap.objs.size,_,I.jA (t':=s.toks) (o:=.aM (Bv xs lo hi)) (λb ob q=>zab _ q) (zaf _) ?_,rfl,q _ (I.cA.fresh (zaf _))⟩
 exact⟨zai (rG xs lo hi) hz,_,0,(r.drop (HT.gC xs.length 0 lo)).take (HT.gC xs.length xs.length hi - HT.gC xs.length 0 lo),zao _ rfl⟩
noncomputable def jL:V->Bool
 |.bz=>true
 |.bl _=>true
 |.int _=>true
 |.str _=>true
 |_=>false
noncomputable def zN:V->V->Bool
 |.bz,.bz=>true
 |.bl a,.bl b=>a == b
 |.bl a,.int b=>(if a then 1 else 0) == b
 |.int a,.bl b=>a == (if b then 1 else 0)
 |.int a,.int b=>a == b
 |.str a,.str b=>a == b
 |_,_=>false
theorem zP (ry:bG y u)(rx:bG x v)(fy:jL y=true)(fx:jL x=true):SeqAt.EqAt A s u v (zN y x):=by
 cases y with
 |bz =>
  cases ry;cases x with
  |bz=>cases rx;exact zdl _
  |bl b=>cases rx;exact SeqAt.EqAt.none_bool b
  |int b=>obtain⟨t,rfl⟩:=rx;exact SeqAt.EqAt.none_int b t
  |str b=>obtain⟨t,rfl⟩:=rx;exact SeqAt.EqAt.none_str b t
  |_=>exact absurd (show false=true from fx) zah
 |bl a =>
  cases ry;cases x with
  |bz=>cases rx;exact SeqAt.EqAt.bool_none a
  |bl b=>cases rx;exact SeqAt.EqAt.bool_bool a b
  |int b=>obtain⟨t,rfl⟩:=rx;exact SeqAt.EqAt.bool_int a b t
  |str b=>obtain⟨t,rfl⟩:=rx;exact SeqAt.EqAt.bool_str a b t
  |_=>exact absurd (show false=true from fx) zah
 |int a =>
  obtain⟨t',rfl⟩:=ry;cases x with
  |bz=>cases rx;exact SeqAt.EqAt.int_none a t'
  |bl b=>cases rx;exact SeqAt.EqAt.int_bool a t' b
  |int b=>obtain⟨t,rfl⟩:=rx;exact SeqAt.EqAt.int_int a t' b t
  |str b=>obtain⟨t,rfl⟩:=rx;exact zeE a t' b t
  |_=>exact absurd (show false=true from fx) zah
 |str a =>
  obtain⟨t',rfl⟩:=ry;cases x with
  |bz=>cases rx;exact SeqAt.EqAt.str_none a t'
  |bl b=>cases rx;exact SeqAt.EqAt.str_bool a t' b
  |int b=>obtain⟨t,rfl⟩:=rx;exact zeF a t' b t
  |str b=>obtain⟨t,rfl⟩:=rx;exact SeqAt.EqAt.str_str a t' b t
  |_=>exact absurd (show false=true from fx) zah
 |_=>exact absurd (show false=true from fy) zah
noncomputable def EF (x:V)(u:Value):Bool:=match u with
 |.none=>zN .bz x
 |.bool b=>zN (.bl b) x
 |.int i _=>zN (.int i) x
 |.str z _=>zN (.str z) x
 |_=>false
theorem LV (r:bG y u)(f:jL y=true):EF x u=zN y x:=by
 cases y with
 |bz=>cases r;rfl
 |bl b=>cases r;rfl
 |int i=>obtain⟨t,rfl⟩:=r;rfl
 |str z=>obtain⟨t,rfl⟩:=r;rfl
 |_=>exact absurd (show false=true from f) zah
theorem pF:∀{xs:List V} {us:List Value},bA xs us->xs.all jL=true->us.any (EF x)=xs.any λy=>zN y x
 |_,_,.nil,_=>rfl
 |y::xs,u::us,.cons r t,f=>by
  rw[zaA,zcG] at f;rw[zbP,zbP,LV r f.1,pF t f.2]
theorem mU (rx:bG x v)(fx:jL x=true):∀{xs:List V} {us:List Value},bA xs us->xs.all jL=true->∀u∈us,SeqAt.EqAt A s u v (EF x u)
 |_,_,.nil,_=>λu hu=>by cases hu
 |y::xs,u::us,.cons r t,f=>λu' hu=>by
  rw[zaA,zcG] at f;rcases zap.mp hu with rfl|hu
  ·rw[LV r f.1];exact zP r rx f.1 fx
  ·exact mU rx fx t f.2 u' hu
noncomputable def inV (x:V)(xs:List V):Bool:=xs.any λy=>zN y x
noncomputable def rIn (K:PySem.W.Frag)(neg:Bool):R2:=λx y H Q=>∃p xs,y = .ref p/\(jC K H p xs\/nJ K H p xs)/\jL x=true/\xs.all jL=true/\Q (.bl (if neg then !inV x xs else inV x xs)) H
theorem Je:kQ X (compareOp .In) (rIn X.K false):=by
 intro ah s σ H x y v u Q I rx ry h;obtain⟨p,xs,rfl,hq,fx,fs,q⟩:=h;cases ry;rcases hq with hq|hq
 ·obtain⟨aI,r,pl,hz⟩:=I.list hq
  refine SeqAt.in_listAt (EF x) pl.isList (λw hw=>mU rx fx r fs w (by simpa using hw)) ⟨.bl _,H,I,rfl,?_⟩
  rw[show aI.toArray.any (EF x)=aI.any (EF x) by simp,pF r fs]
  exact q
 ·obtain⟨aI,r,pl,hz⟩:=I.fj hq
  refine SeqAt.in_tupleAt (EF x) pl (λw hw=>mU rx fx r fs w (by simpa using hw)) ⟨.bl _,H,I,rfl,?_⟩
  rw[show aI.toArray.any (EF x)=aI.any (EF x) by simp,pF r fs]
  exact q
theorem zQ:kQ X (compareOp .NotIn) (rIn X.K true):=by
 intro ah s σ H x y v u Q I rx ry h;obtain⟨p,xs,rfl,hq,fx,fs,q⟩:=h;cases ry;rcases hq with hq|hq
 ·obtain⟨aI,r,pl,hz⟩:=I.list hq
  refine SeqAt.notIn_listAt (EF x) pl.isList (λw hw=>mU rx fx r fs w (by simpa using hw)) ⟨.bl _,H,I,rfl,?_⟩
  rw[show aI.toArray.any (EF x)=aI.any (EF x) by simp,pF r fs]
  exact q
 ·obtain⟨aI,r,pl,hz⟩:=I.fj hq
  refine SeqAt.notIn_tupleAt (EF x) pl (λw hw=>mU rx fx r fs w (by simpa using hw)) ⟨.bl _,H,I,rfl,?_⟩
  rw[show aI.toArray.any (EF x)=aI.any (EF x) by simp,pF r fs]
  exact q
theorem zR:kQ X (compareOp .NotIn) (λx y H Q=>∃i j,x = .str i/\y = .str j/\Q (.bl (!(!(Builtin.Str.occurrences j i 0 j.length 1).isEmpty))) H):=by
 intro ah s σ H x y v u Q I rx ry h;obtain⟨i,j,rfl,rfl,q⟩:=h;obtain⟨t,rfl⟩:=rx;obtain⟨t',rfl⟩:=ry;exact notIn_str ⟨.bl _,H,I,rfl,q⟩
theorem zS:jI X (.builtin "len") (λxs H Q=>∃p ys,xs=[.ref p]/\(jC X.K H p ys\/nJ X.K H p ys)/\Q (.int ys.length) H):=by
 intro ah s σ H xs us Q I r h;obtain⟨p,ys,rfl,hq,q⟩:=h;obtain⟨u,rfl,rx⟩:=oz r;cases rx;have hn:=qE;rcases hq with hq|hq
 ·obtain⟨aI,r',pl,hz⟩:=I.list hq
  have c_:=r'.length;exact Calls.call_len_list pl.isList (by simp only[zam]<;>omega) ⟨.int ys.length,H,I.o8 _,⟨s.toks+1,by rw[zam,c_]⟩,q⟩
 ·obtain⟨aI,r',pl,hz⟩:=I.fj hq
  have c_:=r'.length;exact len_tuple pl (by simp only[zam]<;>omega) ⟨.int ys.length,H,I.o8 _,⟨s.toks+1,by rw[zam,c_]⟩,q⟩
theorem zU:jI X (.builtin "len") (λxs H Q=>∃z,xs=[.str z]/\z.length<=sizeLine/\Q (.int z.length) H):=by
 intro ah s σ H xs us Q I r h;obtain⟨z,rfl,hz,q⟩:=h;obtain⟨u,rfl,t,rfl⟩:=oz r;have hn:=qE;exact len_str (by omega) ⟨.int z.length,H,I.o8 _,⟨_,rfl⟩,q⟩
theorem zV:jI X (.type "list") (λxs H Q=>∃p ys,xs=[.ref p]/\(jC X.K H p ys\/nJ X.K H p ys)/\∀l,H l=none->Q (.ref l) (bu H l (.aM ys))):=by
 intro ah s σ H xs us Q I r h;obtain⟨p,ys,rfl,hq,q⟩:=h;obtain⟨u,rfl,rx⟩:=oz r;cases rx;have fS:∀(aI:List Value),bA ys aI->ys.length<=sizeLine->∀(h':Heap) (c':Nat),(∀b o',s.heap.get? b=some o'->h'.get? b=some o') ->
   h'.get? s.heap.objs.size=some { cls:=.type "list",dict:=none,data:=.seq aI.toArray c',slots:=#[]}->EP X ah σ Q (.ref s.heap.objs.size) {s with heap:=h' }:=λaI r' hz h' c' kp e =>
  ⟨.ref s.heap.objs.size,_,I.jA (t':=s.toks) kp (zaf _) (show bZ X.prog X.w _ h' _ (.aM ys) from ⟨hz,aI,c',r',e⟩),rfl,q _ (I.cA.fresh (zaf _))⟩
 rcases hq with hq|hq
 ·obtain⟨aI,r',pl,hz⟩:=I.list hq
  have c_:=r'.length;obtain⟨o,ho,hc,n,hd⟩:=pl.isList;exact call_list_seq p (.inl rfl) ho hc hd (λh' c' kp e=>fS aI r' hz h' c' kp e) (by simp only[zam]<;>omega)
 ·obtain⟨aI,r',pl,hz⟩:=I.fj hq
  have c_:=r'.length;obtain⟨o,ho,hc,n,hd⟩:=pl;exact call_list_seq p (.inr rfl) ho hc hd (λh' c' kp e=>fS aI r' hz h' c' kp e) (by simp only[zam]<;>omega)
theorem oE:jI X (.type "tuple") (λxs H Q=>∃p ys,xs=[.ref p]/\((jC X.K H p ys/\∀l,H l=none->Q (.ref l) (bu H l (.fP ys)))\/(nJ X.K H p ys/\Q (.ref p) H))):=by
 intro ah s σ H xs us Q I r h;obtain⟨p,ys,rfl,h⟩:=h;obtain⟨u,rfl,rx⟩:=oz r;cases rx;rcases h with⟨hq,q⟩|⟨hq,q⟩
 ·obtain⟨aI,r',pl,hz⟩:=I.list hq
  have c_:=r'.length;refine call_tuple_list pl.isList (λh' kp=>?_) (by simp only[zam]<;>omega)
  have I1:aJ X ah σ H {s with heap:=h' }:=I.gA (t':=s.toks) kp
  have I2:aJ X ah σ (bu H h'.objs.size (.fP ys)) { s with heap:=h'.push { cls:=.type "tuple",data:=.seq aI.toArray} }:=
   I1.jA (t':=s.toks) (λb o e=>zab _ e) (zaf _) (show bZ X.prog X.w _ _ _ (.fP ys) from ⟨hz,aI,r',IsTup.new _ _⟩)
  exact⟨.ref h'.objs.size,_,I2,rfl,q _ (I1.cA.fresh (zaf _))⟩
 ·obtain⟨aI,r',pl,hz⟩:=I.fj hq
  exact call_tuple_same pl ⟨.ref p,H,I,rfl,q⟩
noncomputable def tyV (K:PySem.W.Frag)(T:String)(x:V)(H:Hp):Prop:=match x with
 |.str _=>T="str"
 |.int _=>T="int"
 |.ref p=>(T="list" /\ ∃xs,jC K H p xs)\/(T="tuple" /\ ∃o,K.lookup p=some o/\o.cls = .type "tuple" /\ o.dict=none) \/
   (T="dict" /\ ((∃aK,H p=some (.dK aK))\/∃aK,H p=some (.dT aK)))\/(T="set" /\ ∃S n,H p=some (.set S n))
 |_=>False
theorem LW (I:aJ X ah σ H s)(r:bG x v)(ty:tyV X.K T x H):
  s.TypeIs v T/\∀a,v = .ref a->∃ob,s.heap.get? a=some ob/\ob.dict=none:=by
 cases x with
 |str z =>
  obtain⟨t,rfl⟩:=r;cases (show T="str" from ty)
  exact⟨typeIs_str s z t,λ_ e=>nomatch e⟩
 |int i =>
  obtain⟨t,rfl⟩:=r;cases (show T="int" from ty)
  exact⟨typeIs_int s i t,λ_ e=>nomatch e⟩
 |ref p =>
  cases r;rcases ty with⟨rfl,xs,hq⟩|⟨rfl,o,hk,hc,hd⟩|⟨rfl,hk⟩|⟨rfl,S,n,hk⟩
  ·obtain⟨aI,_,pl,_⟩:=I.list hq
   refine⟨pl.isList.typeIs,λa e=>?_⟩
   cases e;obtain⟨o,n,e,c,hd,_⟩:=pl;exact⟨o,e,hd⟩
  ·refine⟨⟨o,I.kO p o hk,hc⟩,λa e=>?_⟩
   cases e;exact⟨o,I.kO _ o hk,hd⟩
  ·have z:∃o,s.heap.get? p=some o/\o.ExactDict:=by
    rcases hk with⟨aK,hk⟩|⟨aK,hk⟩
    ·obtain⟨_,_,_,_,o,_,_,e,ex,_⟩:=I.cA p _ hk
     exact⟨o,e,ex⟩
    ·obtain⟨_,_,_,_,o,_,_,e,ex,_⟩:=I.cA p _ hk
     exact⟨o,e,ex⟩
   obtain⟨o,e,ex⟩:=z;refine⟨⟨o,e,ex.1⟩,λa e2=>?_⟩
   cases e2;exact⟨o,e,ex.2.1⟩
  ·obtain⟨o,_,_,_,e,ex,_⟩:=I.cA p _ hk
   refine⟨⟨o,e,ex.1⟩,λa e2=>?_⟩
   cases e2;exact⟨o,e,ex.2.1⟩
 |_=>exact False.elim ty
noncomputable def alR (K:PySem.W.Frag)(T:String)(r:V->List V->Hp->VK->Prop)(to:TE):TE:=λσ H Q=>to σ H λx H1=>tyV K T x H1/\r x [] H1 Q
noncomputable def tBM (K:PySem.W.Frag)(T:String)(r:V->List V->Hp->VK->Prop)(to:TE)(t:TA):TE:=λσ H Q=>to σ H λx H1=>tyV K T x H1/\t σ H1 λxs H2=>r x xs H2 Q
variable {o e:Expr}{es:List Expr}{to:TE}{t:TA}{name:Str}{eO fZ:Pos}{T id:String}{r:V->List V->Hp->VK->Prop}
theorem aam (pa:PlainAttrs T)(slot:Slot T name id)(hty:typeOf (.builtin id)=pure (.type "method_descriptor"))(hm:MtR X id r)(ho:PE X o to)
  (tV:attributeBase o name X.env (eval o X.env)=eval o X.env:=by rfl) (tW:(eO.endLine == fZ.line)=true:=by rfl):PE X (.Call (.Attribute o name eO) [] [] fZ) (alR X.K T r to):=by
 intro ah s σ H Q I h;refine wpAny_Call_method0_late tV tW (cM (ho ah s σ H _ I h) λv s1 ⟨x,H1,I1,r1,ty,q1⟩=>?_)
 obtain⟨h1,h2⟩:=LW I1 r1 ty;exact⟨T,id,pa,slot,hty,h1,h2,zcB rfl (PySem.evalArgs_none (hm ah s1 σ H1 x [] v [] Q I1 r1 .nil q1))⟩
theorem agP (pa:PlainAttrs T)(slot:Slot T name id)(hty:typeOf (.builtin id)=pure (.type "method_descriptor"))(hm:MtR X id r)(ho:PE X o to)(ha:PA X (e::es) t)
  (tV:attributeBase o name X.env (eval o X.env)=eval o X.env:=by rfl)
  (alS:((backTo fZ (starEach (e::es) X.env)).all (λx=>!x.1) && (backToKw fZ (keywordEach [] X.env)).all (λx=>x.1.isSome)
   && decide ((e::es).length+([]:List Keyword).length+(if ([]:List Keyword).isEmpty then 0 else 1)<30))=true:=by rfl)
  (tW:(eO.endLine == fZ.line)=true:=by rfl) (hs:starEach (e::es) X.env=(false,eval e X.env)::starEach es X.env:=by rfl) (aao:(backTo fZ (starEach es X.env)).any (·.1)=false:=by rfl):
  PE X (.Call (.Attribute o name eO) (e::es) [] fZ) (tBM X.K T r to t):=by
 intro ah s σ H Q I h;refine wpAny_Call_method_late tV alS tW rfl (cM (ho ah s σ H _ I h) λv s1 ⟨x,H1,I1,r1,ty,q1⟩=>?_)
 obtain⟨h1,h2⟩:=LW I1 r1 ty;refine⟨T,id,pa,slot,hty,h1,h2,?_⟩
 have hA:=ha fZ ah s1 σ H1 _ I1 q1;rw[hs] at hA ⊢
 refine zcB (by show (false || (backTo fZ (starEach es X.env)).any (·.1))=false;rw[aao]<;>rfl) (zdi ?_)
 exact cM hA λus s2 ⟨vs,H2,I2,r2,q2⟩=>hm ah s2 σ H2 x vs v us Q I2 r1 r2 q2
end
noncomputable def MtM (X:Cx)(id:String)(r:V->List V->Hp->VK->Prop):Prop:=
 ∀(ah:List (Addr×Obj)) (s:Shared) (σ:St) (H:Hp) (x:V) (xs:List V) (v:Value) (us:List Value) (Q:VK),aJ X ah σ H s->bG x v->bA xs us->r x xs H Q ->
  wpAny (model X.prog X.w) X.A (call (.builtin id) (v::us)) (EP X ah σ Q) X.xe s
theorem bA.Q0:∀{x:V} {us:List Value},bA [x] us->∃u,us=[u]/\bG x u
 |_,_,.cons r .nil=>⟨_,rfl,r⟩
theorem bA.two:∀{x y:V} {us:List Value},bA [x,y] us->∃u v,us=[u,v]/\bG x u/\bG y v
 |_,_,_,.cons r (.cons q .nil)=>⟨_,_,rfl,r,q⟩
theorem bA.zero:∀{us:List Value},bA [] us->us=[]
 |_,.nil=>rfl
theorem bA.dropLast (h:bA xs us):bA xs.dropLast us.dropLast:=by
 induction h with
 |nil=>exact .nil
 |cons r t ih =>
  cases t with
  |nil=>exact .nil
  |cons q t'=>exact .cons r ih
theorem bA.rep (h:bA xs us):∀k:Nat,bA (List.replicate k xs).flatten (List.replicate k us).flatten
 |0=>.nil
 |k+1=>by
  rw[zaz,zaz,zck,zck];exact bA.jh h (bA.rep h k)
theorem EG {α:Type}(l:List α):l.eraseIdx (l.length - 1)=l.dropLast:=by
 induction l with
 |nil=>rfl
 |cons a r ih =>
  cases r with
  |nil=>rfl
  |cons b r =>
   have e:(a::b::r).length - 1=((b::r).length - 1)+1:=by
    have h1:(a::b::r).length=r.length+2:=rfl
    have h2:(b::r).length=r.length+1:=rfl
    omega
   rw[e,List.eraseIdx_cons_succ,ih];all_goals rfl
theorem x_ (aI:List Value):∀(k:Nat) (bU:List Value),
  List.foldl (λx1 x2=>x1++x2) bU.toArray (List.replicate k aI.toArray)=(bU++(List.replicate k aI).flatten).toArray
 |0,bU=>by simp
 |k+1,bU=>by
  have e:bU.toArray++aI.toArray=(bU++aI).toArray:=by simp
  have e2:(bU++aI)++(List.replicate k aI).flatten=bU++(List.replicate (k+1) aI).flatten:=by
   rw[zaz,zck,zbB]
  rw[<-e2,<-x_ aI k (bU++aI),<-e,zaz,zbf]
theorem aJ.LX {aI its':List Value}{n:Nat}{f:Array Value->Array Value}{t':Nat}(I:aJ X ah σ H s)(hH:H l=some (.aM xs))
  (e:s.heap.get? l=some { cls:=.type "list",data:=.seq aI.toArray n}) (hf:f aI.toArray=its'.toArray) (hv:bA ys its') (hz:ys.length<=sizeLine):
  aJ X ah σ (bu H l (.aM ys)) {s with heap:=s.heap.update l (Obj.mapSeq f),toks:=t' }:=by
 have q:=PySem.IsL.update e f;rw[hf] at q;refine I.jH (x:=l) (e:=l) (by rw[hH];exact trivial) (.inl rfl) (λb' u hb hu=>(zaB s.heap (Obj.mapSeq f) (zbg hb)).trans hu) ⟨_,q⟩ ?_
 exact⟨hz,its',_,hv,q⟩
theorem aJ.agR (I:aJ X ah σ H s)(hv:bA ys aI)(hz:ys.length<=sizeLine):
  aJ X ah σ (bu H s.heap.objs.size (.aM ys)) { s with heap:=s.heap.push { cls:=.type "list",data:=.seq aI.toArray},toks:=t' }:=
 I.jA (λ_ _ q=>zab _ q) (zaf _) ⟨hz,aI,0,hv,zao _ rfl⟩
theorem aJ.fresh (I:aJ X ah σ H s):H s.heap.objs.size=none:=I.cA.fresh (zaf _)
theorem aJ.wZ (I:aJ X ah σ H s)(hH:H l=some (.aM xs)):xs.length<=sizeLine/\∃(aI:List Value) (n:Nat),bA xs aI/\xs.length=aI.length/\s.heap.get? l=some { cls:=.type "list",data:=.seq aI.toArray n}:=by
 obtain⟨z,aI,n,r,e⟩:=I.cA l _ hH;exact⟨z,aI,n,r,r.length,e⟩
theorem pG (h:n<=sizeLine):Builtin.List.listTooLong n=false:=by
 unfold Builtin.List.listTooLong;exact decide_eq_false (by omega)
noncomputable def RP:V->List V->Hp->VK->Prop:=λx vs H Q=>∃l xs y,x = .ref l/\vs=[y]/\H l=some (.aM xs)/\xs.length<sizeLine/\Q .bz (bu H l (.aM (xs++[y])))
theorem ya:MtM X "list.append" RP:=by
 intro ah s σ H x vs v us Q I rx rv h;obtain⟨l,xs,y,rfl,rfl,hH,hz,q⟩:=h;cases rx;obtain⟨u,rfl,ru⟩:=rv.Q0;obtain⟨z,aI,n,r,hl,e⟩:=I.wZ hH;refine zcV F.slot_list_append ⟨_,e,rfl⟩ F.entry_list_append (F.args_list_append_2 _ _) (PySem.list_append l aI.toArray n u (by rw[zam];omega)) ⟨e,?_⟩
 refine⟨.bz,_,I.LX (its':=aI++[u]) hH e (by simp) (r.jh (.cons ru .nil)) ?_,rfl,q⟩
 rw[zak,zbo];omega
noncomputable def RQ:V->List V->Hp->VK->Prop:=λx vs H Q=>∃l b xs zs,x = .ref l/\vs=[.ref b]/\H l=some (.aM xs)/\H b=some (.aM zs)/\xs.length+zs.length<=sizeLine/\Q .bz (bu H l (.aM (xs++zs)))
theorem Jf:MtM X "list.extend" RQ:=by
 intro ah s σ H x vs v us Q I rx rv h;obtain⟨l,b,xs,zs,rfl,rfl,hH,hB,hz,q⟩:=h;cases rx;obtain⟨u,rfl,ru⟩:=rv.Q0;cases ru;obtain⟨z,aI,n,r,hl,e⟩:=I.wZ hH;obtain⟨z2,fY,n2,r2,Jg,e2⟩:=I.wZ hB;have hsz:aI.toArray.size+fY.toArray.size<=sizeLine:=by rw[zam,zam];omega
 have LY:¬ (!aI.toArray.isEmpty && Builtin.List.listTooLong (aI.toArray.size+fY.toArray.size))=true:=by
  rw[pG hsz,Bool.and_false];exact zah
 refine zcV F.slot_list_extend ⟨_,e,rfl⟩ F.entry_list_extend (F.args_list_extend_2 _ _)
  (AutoSeq1.list_extend_list_list_0 l aI.toArray n b fY.toArray n2 LY (by rw[zam];omega) (by omega)) ⟨e,e2,?_⟩
 refine⟨.bz,_,I.LX (its':=aI++fY) hH e (by simp) (r.jh r2) ?_,rfl,q⟩
 rw[zak];omega
noncomputable def alT:V->List V->Hp->VK->Prop:=λx vs H Q=>∃l xs y,x = .ref l/\vs=[]/\H l=some (.aM xs)/\xs[xs.length - 1]? = some y/\Q y (bu H l (.aM xs.dropLast))
theorem alU:MtM X "list.pop" alT:=by
 intro ah s σ H x vs v us Q I rx rv h;obtain⟨l,xs,y,rfl,rfl,hH,hy,q⟩:=h;cases rx;have hus:=rv.zero;subst hus;obtain⟨z,aI,n,r,hl,e⟩:=I.wZ hH;obtain⟨u,hu,ru⟩:=r.get hy;have hy':aI.toArray[aI.toArray.size - 1]? = some u:=by
  show aI.toArray[aI.length - 1]? = some u
  rw[<-Array.getElem?_toList,<-hl];exact hu
 refine zcV F.slot_list_pop ⟨_,e,rfl⟩ F.entry_list_pop (F.args_list_pop_1 _) (MeetsSeq.list_pop_last l aI.toArray n u hy' (by rw[zam];omega)) ⟨e,?_⟩
 refine⟨y,_,I.LX (its':=aI.dropLast) hH e ?_ r.dropLast ?_,ru,q⟩
 ·show aI.toArray.eraseIdxIfInBounds (aI.toArray.size - 1)=aI.dropLast.toArray
  rw[zam,List.eraseIdxIfInBounds_toArray,EG]
 ·rw[List.length_dropLast]
  omega
noncomputable def aap:V->List V->Hp->VK->Prop:=λx vs H Q=>∃l xs,x = .ref l/\vs=[]/\H l=some (.aM xs)/\Q .bz (bu H l (.aM []))
theorem LZ:MtM X "list.clear" aap:=by
 intro ah s σ H x vs v us Q I rx rv h;obtain⟨l,xs,rfl,rfl,hH,q⟩:=h;cases rx;have hus:=rv.zero;subst hus;obtain⟨z,aI,n,r,hl,e⟩:=I.wZ hH;refine zcV F.slot_list_clear ⟨_,e,rfl⟩ F.entry_list_clear (F.args_list_clear_1 _) (AutoSeq1.list_clear_list_0 l aI.toArray n (by rw[zam];omega)) ⟨e,?_⟩
 exact⟨.bz,_,I.LX (its':=[]) (ys:=[]) hH e rfl .nil (zcA _),rfl,q⟩
noncomputable def alW:R2:=λx y H Q=>∃l b xs zs,x = .ref l/\y = .ref b/\H l=some (.aM xs)/\H b=some (.aM zs)/\xs.length+zs.length<=sizeLine/\∀p,H p=none->Q (.ref p) (bu H p (.aM (xs++zs)))
theorem aaq:kQ X (binaryOp .Add) alW:=by
 intro ah s σ H x y v u Q I rx ry h;obtain⟨l,b,xs,zs,rfl,rfl,hH,hB,hz,q⟩:=h;cases rx;cases ry;obtain⟨z,aI,n,r,hl,e⟩:=I.wZ hH;obtain⟨z2,fY,n2,r2,Jg,e2⟩:=I.wZ hB;refine PySem.P.add_list e e2 ?_ (by rw[zam,zam];omega)
 have ea:aI.toArray++fY.toArray=(aI++fY).toArray:=by simp
 rw[ea];exact⟨.ref _,_,I.agR (t':=s.toks) (r.jh r2) (by rw[zak];omega),rfl,q _ I.fresh⟩
noncomputable def alX:R2:=λx y H Q=>∃l k xs,x = .ref l/\y = .int k/\H l=some (.aM xs) /\ -(2 ^ 63)<=k/\k<2 ^ 63/\xs.length * k.toNat<=sizeLine /\
 ∀p,H p=none->Q (.ref p) (bu H p (.aM (List.replicate k.toNat xs).flatten))
theorem RU {α:Type}(xs:List α)(k:Nat):(List.replicate k xs).flatten.length=k * xs.length:=by
 induction k with
 |zero=>simp
 |succ k ih=>rw[zaz,zck,zak,ih,Nat.succ_mul,Nat.add_comm]
theorem aar:kQ X (binaryOp .Mult) alX:=by
 intro ah s σ H x y v u Q I rx ry h;obtain⟨l,k,xs,rfl,rfl,hH,h1,h2,hz,q⟩:=h;cases rx;obtain⟨t,rfl⟩:=ry;obtain⟨z,aI,n,r,hl,e⟩:=I.wZ hH;have c_:aI.toArray.size * k.toNat<=sizeLine:=by rw[zam,<-hl];exact hz
 have alY:¬ aI.toArray.size * k.toNat > (2 ^ 63 - 1) / 8:=by
  have:(sizeLine:Nat)<=(2 ^ 63 - 1) / 8:=by decide
  omega
 have alZ:¬ (!Builtin.List.listFitsIndex k)=true:=by
  rw[fitsIndex_both h1 h2];exact zah
 have LY:¬ Builtin.List.listTooLong (aI.toArray.size * k.toNat)=true:=by
  rw[pG c_];exact zah
 have L1:List.foldl (λx1 x2=>x1++x2) #[] (List.replicate (if aI.toArray.isEmpty=true then 0 else k.toNat) aI.toArray)=(List.replicate k.toNat aI).flatten.toArray:=by
  have f0:∀m:Nat,List.foldl (λx1 x2=>x1++x2) #[] (List.replicate m aI.toArray)=(List.replicate m aI).flatten.toArray:=λm=>by
   have:=x_ aI m []
   rw[zdm] at this;exact this
  rw[f0];cases aI with
  |nil=>simp
  |cons a r'=>rw[if_neg (by simp)]
 refine wpAny_binaryOp_repeat_ref (T:= "list") (U:= "int") (by decide) ⟨_,e,rfl⟩ (λs'=>typeIs_int s' k t) noFill_list_mul F.fills_int_mul F.slot_int_rmul repeat_list F.slot_int_index.lookup
  (zcV F.slot_int_rmul (typeIs_int s k t) F.entry_int_rmul (F.args_int_rmul_2 _ _) (int___rmul___int_list k t l aI.toArray n)
   ⟨e,rfl,⟨_,e,rfl⟩,zcV F.slot_list_mul ⟨_,e,rfl⟩ F.entry_list_mul (F.args_list_mul_2 _ _) (AutoListH.list___mul___list_int_3 l aI.toArray n k t alZ alY LY) ⟨e,?_⟩⟩)
 rw[L1];exact⟨.ref _,_,I.agR (t':=s.toks) (r.rep k.toNat) (by rw[RU,Nat.mul_comm];exact hz),rfl,q _ I.fresh⟩
theorem Jh (aI fY:List Value)(a c:Nat):aI.toArray.extract 0 a++fY.toArray++aI.toArray.extract c aI.toArray.size=(aI.take a++fY++aI.drop c).toArray:=by
  apply Array.toList_inj.mp
  first
    | (simp
       exact zbl (by simp))
    |simp[zbl]
    |simp
theorem EH {a c n:Nat}(hac:a<=c)(hc:c<=n):sliceBounds (some (a:Int)) (some (c:Int)) none n=((a:Int),(c:Int),1):=by
 simp only[sliceBounds,zdQ];have h1:¬ ((a:Int)<0):=by omega
 have h2:¬ ((c:Int)<0):=by omega
 simp only[h1,h2,if_false,show (1:Int) > 0 by decide,if_true]
 congr 1
 ·omega
 ·congr 1;omega
set_option maxRecDepth 100000 in
theorem w9 {l b sl:Addr}{items new:Array Value}{n n2:Nat}{vl vu:Value}{a c:Nat}{Q:Unit->Shared->Prop}
    (e:s.heap.get? l=some { cls:=.type "list",data:=.seq items n}) (e2:s.heap.get? b=some { cls:=.type "list",data:=.seq new n2}) (sA:l≠b)
    (hs:s.heap.IsSliceOf sl vl vu .none) (pl:IsPart vl (some (a:Int))) (pu:IsPart vu (some (c:Int))) (hac:a<=c) (hc:c<=items.size)
    (hsz:items.size+new.size<=sizeLine) (h:Q () {s with heap:=s.heap.update l (Obj.mapSeq λxs=>xs.extract 0 a++new++xs.extract c xs.size)}):
    wpAny (model prog w) A (setItem (.ref l) (.ref sl) (.ref b)) Q E s:=by
  have hl:s.heap.IsList l items:=PySem.IsL.isList e
  have hb:s.heap.IsList b new:=PySem.IsL.isList e2
  obtain⟨os,K4,VN,VO⟩:=id hs;have hTs:s.TypeIs (.ref sl) "slice" := ⟨os,K4,VN⟩
  have agS:¬ ((rawPart none == rawInt 0)=true):=zah
  have L4:Builtin.List.listSameRef (.ref l) (.ref b)=false:=by
    unfold Builtin.List.listSameRef;exact beq_eq_false_iff_ne.mpr sA
  have al0:(max (a:Int) (c:Int)).toNat=c:=by omega
  have L5:((λxs:Array Value=>xs.extract 0 a++new++xs.extract c xs.size) items).size<=sizeLine+1:=by
    simp only[Array.size_append,Array.size_extract];omega
  unfold setItem;try with_reducible refine zaH ?_
  first|refine zaa (zac ?_)|skip
  refine zaa (wpAny_sequenceKey hl.typeIs (by decide) ?_)
  refine zaa (zaN (name:=Str.ofString "__setitem__") hl.typeIs slot_list_setitem
    (zbj slot_list_setitem hl.typeIs entry_list_setitem ?_ (args_list_setitem _ _ _)))
  show wpAny _ _ (Builtin.List.listSubscript? (.ref sl) >>= _) _ _ s
  refine zaa ?_
  unfold Builtin.List.listSubscript?
  refine zaa (zdZ hTs slice_no_index ?_)
  simp only[zdx,if_true];refine zac ?_
  show wpAny _ _ (typeOf (.ref sl) >>= _) _ _ s
  refine zaa (zdj hTs ?_)
  first
    |rw[if_neg (by decide)]
    |refine zdy (by decide) ?_
  rw[listSliceParts_eq];refine zaa (zaa (zax K4 VO (x:=.none) rfl (zaa (zep .none ?_))))
  rw[if_neg agS];refine zaa (zax K4 VO (x:=vl) rfl (zaa (zep pl ?_)))
  refine zaa (zax K4 VO (x:=vu) rfl (zaa (zep pu (zac ?_))))
  first
    |simp only[L4,zbq,if_false]
    |refine zdy L4 ?_
    | (dsimp only
       rw[if_neg (by rw[L4];exact zah)])
  refine zaa (m:=Builtin.List.listAllItems (.ref b) "must assign iterable to extended slice") ?_
  unfold Builtin.List.listAllItems;refine zaa (zdj hb.typeIs ?_)
  first
    |refine PySem.W.KFB.if_so (by decide) ?_
    |rw[if_pos (by decide)]
    |simp only[beq_self_eq_true,Bool.true_or,if_true]
  unfold Builtin.List.listItems;refine zaa (zbm e2 rfl (zac ?_))
  refine zaa (zaa (zbm e rfl (zac ?_)))
  refine zaa (wpAny_of_eq ((sliceIndices_raw (some (a:Int)) (some (c:Int)) none items.size (by simp)).trans (congrArg (pure:Int×Int×Int->Sem (Int×Int×Int)) (EH hac hc))) ?_)
  show wpAny _ _ (if ((1:Int) == 1)=true then _ else _) _ _ s
  rw[if_pos (by decide)]
  refine zaa (zcU ?_)
  first
    |simp only[pG hsz,zbq,if_false]
    |refine zdy (pG hsz) ?_
  first|refine zaa (zac ?_)|skip
  show wpAny _ _ (updateSeq l (λxs=>xs.extract 0 ((a:Int)).toNat++new++xs.extract (max (a:Int) (c:Int)).toNat xs.size) >>= _) _ _ s
  rw[al0,zbn];refine zaa (wpAny_updateSeq (hz:=zai (zbr _ _) hsz) (_hz':=L5) e rfl ?_)
  refine zaa (zej ?_)
  first
    |exact zaa (zac (zac ⟨.none,rfl,zac h⟩))
    |exact zac ⟨.none,rfl,zac h⟩
end L2
namespace Att
open PySem PySem.W PySem.Calls PyProof.Rows
theorem sD:∀(ns:List Int) (vs:List Value),WellAll P h vs (ns.map WData.int)->IntsAre vs ns:=by
 intro ns;induction ns with
 |nil =>
  intro vs w;rw[zaJ] at w;cases w;exact .nil
 |cons n ns ih =>
  intro vs w;rw[zat] at w;cases w with
  |cons a b =>
   cases a;exact .cons _ _ (ih _ b)
theorem Ji {l:OpenLaw}{n:Nat}(hn:l.most=some n){P:Params}{h:Heap}{args:List WData}{aas:List Value}
  (RV:l.row.toRowW.claim.pre args=true) (hwl:WellAll P h aas args):
  ∃a vs ns,aas=[Value.ref a]/\args=[WData.list (ns.map WData.int)]/\h.get? a=some { cls:=.type "list",data:=.seq vs.toArray}/\IntsAre vs ns/\ns.length<=n:=by
 have hsh:WShape.hasAll [] args [.list .int]=true:=(pre_splitW RV).1
 have hc:l.pre.holds [] {args:=args}=true:=(pre_splitW RV).2
 obtain⟨d,r,rfl,h1,h2⟩:=hasAllW_cons hsh;obtain rfl:=hasAllW_nil h2
 obtain⟨xs,rfl,h3⟩:=hasW_list h1;obtain⟨ns,rfl⟩:=items_int h3;have c_:ns.length<=n:=by
  unfold OpenLaw.pre at hc;have h4:(WTm.not (.lt (.lit (.int (n:Int))) (.len (.arg 0)))).holds [] {args:=[.list (ns.map .int)]}=true:=by
   have h4:=(holds_andW hc).1
   rw[hn] at h4;exact h4
  have h5:=condW_of h4 (w_not (w_lt w_lit (w_len_list (w_arg rfl))))
  rw[zad] at h5;refine Nat.le_of_not_lt λq=>?_
  have q':(n:Int)<((ns.length:Nat):Int):=by omega
  first
   | (rw[decide_eq_true q'] at h5;exact absurd h5 (by decide))
   | (simp at h5;omega)
 cases hwl with
 |cons w1 w2 =>
  cases w2;cases w1 with
  |list ho Ex=>exact⟨_,_,ns,rfl,rfl,ho,sD ns _ Ex,c_⟩
theorem Jj (l:OpenLaw)(args:List WData):l.row.toRowW.claim.post args (.bool true) args=true:=
 postW_of (r:=l.row.toRowW) (X:=(true == true))
  (show WShape.has [] (.bool true) .bool=true by first|rfl|decide|simp[WShape.has,WShape.arms,WShape.armsAll])
  (show (WTm.eq .res (.lit (.bool true))).value [] {args:=args,res:=some (.bool true),after:=args}=some (.bool (true == true)) from w_eq_bool (w_res rfl) w_lit) rfl
theorem Bw {l:OpenLaw}{n:Nat}{q:Program}{yb:List Str}{XP:(Str->Option Value)->Heap->Prop}{YP:World->Heap->Prop}{d:DefRec}
  (hn:l.most=some n) (hdf:d.params.defaults=[])
  (call:∀(w:World) (s₀ cN:Shared) (mg mb:Str->Option Value) (fa:Addr) (o:Obj) (pm cd oN:Value) (a:Addr) (vs:List Value) (ns:List Int),
   Ground q yb [] XP w s₀ mg mb cN.heap->YP w cN.heap ->
   cN.heap.get? fa=some o->o.data = .func (docDef d.name d.params d.body d.scope pm cd oN)->cN.heap.CodeRec cd d.name->mg d.name=some (.ref fa) ->
   cN.heap.get? a=some { cls:=.type "list",data:=.seq vs.toArray}->IntsAre vs ns->ns.length<=n->cN.gens = #[] ->
   codeAny (model l.prog w) callerA (.call (.ref fa) ⟨[.ref a],[]⟩) (λr s'=>r = .ok (.ret (.bool true))/\OldK cN.heap s'.heap/\s'.os=cN.os/\AllBare s'.gens) cN):
  WalkO q yb XP YP l.row.toRowW d [] (λf vs=>PySem.call f vs):=by
 intro w s₀ cN mg mb G Y fa o pm cd oN dV kV ho hd Bg hD hmg hg args aas as RV aqI hrd hwl hlo;obtain rfl:dV = .none:=Dflts.none hD hdf
 obtain rfl:kV = .none:=Dflts.noKw hD
 obtain⟨a,vs,ns,rfl,rfl,aat,L6,c_⟩:=Ji hn RV hwl;refine enter_call (zcN (call w s₀ cN mg mb fa o pm cd oN a vs ns G Y ho (fd_plain hd) Bg hmg aat L6 c_ hg) λr s' hq=>?_)
 obtain⟨rfl,h2,h3,h4⟩:=hq;exact⟨.inl ⟨.bool true,.bool true,[],rfl,λ_=>rfl,.bool true,Jj l _,λ_=>⟨List.Pairwise.nil,λ_ hm=>(nomatch hm)⟩⟩,h2,h3,h4⟩
section
variable {prog:Program}{w:World}{A:Around}{E:Value->Shared->Prop}{s:Shared}{K:Frag}
end
end Att
namespace L2
open PySem PySem.Spec PyProof.Rows
theorem yc:∀{vs:List Value} {ns:List Int},IntsAre vs ns->bA (ns.map V.int) vs
 |_,_,.nil=>.nil
 |_,_,.cons n t h=>.cons ⟨t,rfl⟩ (yc h)
noncomputable def bI (H:Hp):Prop:=∀b,H b=none\/∃o xs,H b=some (.qw o (.aM xs))
theorem L7 {P:Program}{w:World}{K:PySem.W.Frag}{mg mb:Str->Option Value}{CX:DO}{k:Nat}{fa a:Addr}{fd:FuncData}{x:Str}{sp:Sp}{cN:Shared}{vs:List Value}{ns:List Int}
  (KX:K.In cN.heap) (Jk:cN.heap.Ns mainGlobals mg) (hb:cN.heap.Ns builtinsNs mb) (hbb:∀x:Str,x ≠ "__name__" -> mb x=bootBuiltins x) (al3:cN.heap.NoLimit) (hg:cN.gens = #[])
  (ha:cN.heap.get? a=some { cls:=.type "list",data:=.seq vs.toArray}) (hi:IntsAre vs ns) (hl:ns.length<=sizeLine) (hr:gV k callerA)
  (F:∀base:Heap,K.In base->base.Ns mainGlobals mg->aQ P w K mg base CX k fa fd [x] sp) (agU:∀(s:Shared) (u:Value),BindsTo s fd ⟨[u],[]⟩ [(x,u)])
  (K3:∀H:Hp,bI H->jC K H a (ns.map V.int)->sp [.ref a] H (λv _=>v = .bl true) λ_ _ _=>False)
  (hCX:∀H e s',CX [] H cN (λ_ _ _=>False) e s'->False):
  codeAny (model P w) callerA (.call (.ref fa) ⟨[.ref a],[]⟩) (λr s'=>r = .ok (.ret (.bool true))/\OldK cN.heap s'.heap/\s'.os=cN.os/\AllBare s'.gens) cN:=by
 have rv:=yc hi;have al5:=hi.length;-- from an abstract heap in aoX akB but xN Lg may be zA
 have agV:∀H:Hp,bI H->jC K H a (ns.map V.int)->oh P w H cN.heap->(∀b,H b≠none->b=a)->(H a≠none->K.lookup a=none) ->
   codeAny (model P w) callerA (.call (.ref fa) ⟨[.ref a],[]⟩) (λr s'=>r = .ok (.ret (.bool true))/\OldK cN.heap s'.heap/\s'.os=cN.os/\AllBare s'.gens) cN:=by
  intro H hO hS cA hA hK;have GO:∀{b:Addr} {o:Obj},cN.heap.get? b=some o->H b=none->(zz cN.heap H).get? b=some o:=λe n=>Lh e n
  have noA:∀{b:Addr} {o:Obj} {es:Array DictEntry} {ep:Nat},cN.heap.get? b=some o->o.data = .dict es ep->H b=none:=λ{b o es ep} e d=>by
   cases q:H b with
   |none=>rfl
   |some u =>
    have e':b=a:=hA b (by rw[q];simp)
    subst e';rw[ha] at e;cases e
    have d':Data.seq vs.toArray _=Data.dict es ep:=d
    cases d'
  have nsK:∀{b:Addr} {m:Str->Option Value},cN.heap.Ns b m->(zz cN.heap H).Ns b m:=λ{b m} ⟨o,es,ep,e,d,r⟩=>⟨o,es,ep,GO e (noA e d),d,r⟩
  have hKb:K.In (zz cN.heap H):=λb o e=>GO (KX b o e) (by
   cases q:H b with
   |none=>rfl
   |some u =>
    have e':b=a:=hA b (by rw[q];simp)
    subst e';rw[hK (by rw[q];simp)] at e;cases e)
  have hM:Mod K mg (zz cN.heap H):=⟨hKb,nsK Jk,⟨mb,nsK hb,hbb⟩,let ⟨mc,h1,h2⟩:=al3;⟨mc,nsK h1,h2⟩⟩
  have e0:Et P w K mg (zz cN.heap H) callerA [] cN H:=⟨rfl,hM,λb o e=>Q3 e,Nat.le_of_eq (IQ _ _),trivial,λb hb=>absurd (show b∈([]:List Addr) from hb) (by simp),cA,.of_eq hg⟩
  refine zcN ((F _ hKb (nsK Jk)).kW callerA [] cN H ⟨[.ref a],[]⟩ [.ref a] [.ref a] _ _ hr e0 (agU cN (.ref a)) (.cons rfl .nil) (K3 H hO hS)) λr s' h=>?_
  cases r with
  |error e=>exact (hCX H e s' h).elim
  |ok fl =>
   cases fl with
   |next=>exact False.elim h
   |brk=>exact False.elim h
   |cont=>exact False.elim h
   |ret u =>
    obtain⟨v,H',os,i6,un,al6,r',q⟩:=h;have q':v = .bl true:=q
    subst q';obtain rfl:u=Value.bool true:=r'
    refine⟨rfl,OldK.of_keep λb o e=>?_,os,i6⟩
    cases q:H b with
    |none=>exact un.keep b o e q (by intro z;exact absurd (show b∈([]:List Addr) from z) (by simp)) (by simp)
    |some u =>
     rcases hO b with z|⟨ob,xs,z⟩
     ·rw[q] at z;cases z
     ·have z2:=un.tD b ob _ z
      obtain⟨e1,_⟩:=cA b _ z;obtain⟨e2,_⟩:=al6 b _ z2;rw[e] at e1;cases e1
      exact e2
 cases hk:K.lookup a with
 |some o =>
  -- xN Lg is Q0 of xN agW tw Rc
  have e:=KX a o hk;rw[ha] at e;cases e;refine agV (λ_=>none) (λ_=>.inl rfl) (.inr ⟨_,vs.toArray,_,hk,rfl,rfl,rfl,by rw[zam,al5];exact hl,by simpa using rv⟩) (λb u z=>by have z':(none:Option HO)=some u:=z;cases z') (λb z=>absurd rfl z) λz=>absurd rfl z
 |none =>
  refine agV (λb=>if b=a then some (.qw { cls:=.type "list",data:=.seq vs.toArray} (.aM (ns.map V.int))) else none) (λb=>?_) (.inl (.inr ⟨{ cls:=.type "list",data:=.seq vs.toArray},if_pos rfl⟩)) (λb u z=>?_) (λb z=>?_) λ_=>hk
  ·by_cases hb:b=a
   ·exact .inr ⟨_,_,if_pos hb⟩
   ·exact .inl (if_neg hb)
  ·by_cases hb:b=a
   ·have z':=(if_pos hb).symm.trans z
    cases z';subst hb;exact⟨ha,by rw[zad];exact hl,vs,_,rv,ha⟩
   ·have z':=(if_neg hb).symm.trans z
    cases z'
  ·by_cases hb:b=a
   ·exact hb
   ·exact absurd (if_neg hb) z
theorem RW {l:PySem.W.OpenLaw}{n k:Nat}{q:Program}{yb:List Str}{XP:(Str->Option Value)->Heap->Prop}{YP:World->Heap->Prop}{d:DefRec}{K:Params->PySem.W.Frag}{CX:World->DO}{sp:World->Sp}{x:Str}
  (hn:l.most=some n) (QV:n<=sizeLine) (hdf:d.params.defaults=[]) (hr:gV k callerA)
  (hY:∀(w:World) (h:Heap),YP w h->(K w.params).In h)
  (F:∀(w:World) (mg:Str->Option Value) (fa:Addr) (h:Heap),(K w.params).In h->h.Ns mainGlobals mg->mg d.name=some (.ref fa) ->
   ∃fd:FuncData,(∀(s:Shared) (u:Value),BindsTo s fd ⟨[u],[]⟩ [(x,u)]) /\
    ∀base:Heap,(K w.params).In base->base.Ns mainGlobals mg->aQ l.prog w (K w.params) mg base (CX w) k fa fd [x] (sp w))
  (K3:∀(w:World) (H:Hp) (a:Addr) (ns:List Int),ns.length<=n->bI H->jC (K w.params) H a (ns.map V.int)->sp w [.ref a] H (λv _=>v = .bl true) λ_ _ _=>False)
  (hCX:∀(w:World) (H:Hp) (s:Shared) (e:Value) (s':Shared),CX w [] H s (λ_ _ _=>False) e s'->False):
  PySem.W.WalkO q yb XP YP l.row.toRowW d [] (λf vs=>PySem.call f vs):=by
 refine Att.Bw hn hdf λw s₀ cN mg mb fa o pm cd oN a vs ns G Y ho hd Bg hmg aat L6 c_ hg=>?_
 have KX:=hY w _ Y;obtain⟨fd,hb,hF⟩:=F w mg fa _ KX G.T.g hmg;exact L7 KX G.T.g G.T.b G.T.builtins G.T.nolimit hg aat L6 (zai c_ QV) hr hF hb (λH hO hS=>K3 w H a ns c_ hO hS) λH e s'=>hCX w H cN e s'
noncomputable def a_ (s:Stmt)(j:Nat):Stmt:=match s with
 |.ClassDef _ _ _ body _ _ _ _ _ _ _=>body.getD j (.Pass ⟨0,0,0,0⟩)
 |_=>.Pass ⟨0,0,0,0⟩
noncomputable def eU (s:Stmt):Arguments:=match s with
 |.FunctionDef _ a _ _ _ _ _ _ _ _=>a
 |_=>{posonlyargs:=[],args:=[],vararg:=none,kwonlyargs:=[],kw_defaults:=[],kwarg:=none,defaults:=[]}
noncomputable def cV (s:Stmt):List Stmt:=match s with
 |.FunctionDef _ _ b _ _ _ _ _ _ _=>b
 |_=>[]
noncomputable def ak (s:Stmt):Scope:=match s with
 |.FunctionDef _ _ _ _ _ _ sc _ _ _=>sc
 |_=>{kind:=.function,names:=[],isGenerator:=false,isCoroutine:=false}
noncomputable abbrev eF:DO:=λ_ _ _ _ _ _=>False
noncomputable abbrev E0:XK:=λ_ _ _=>False
structure K5 (K:PySem.W.Frag) (x bX:Str) (st:Stmt) (f:Addr) (fd:FuncData):Prop where
 ex:∃(oc:Value) (od:Option Addr) (kV oN pm:Value) (an:Option Addr) (fF ct:Value) (Ew:Array (Option Value)),
  fd=PySem.W.fnOf x bX (eU st) (cV st) (ak st) .none kV oN pm an fF ct/\K.lookup f=some ⟨oc,od,.func fd,Ew⟩/\PySem.W.codeIn K fF bX=true
 kp:PySem.W.keepIn K (.ref f)=true
section
variable {P:Program}{w:World}{K:PySem.W.Frag}{mg:Str->Option Value}{base:Heap}
theorem K5.ok {x bX:Str}{st:Stmt}{f:Addr}{fd:FuncData}{N ps:List Str}{k:Nat}{sp:Sp}(F:K5 K x bX st f fd)(S:aq N ps (ak st))(len:∀vs H Q E,sp vs H Q E->vs.length=ps.length)
  (tQ:∀(fF:Value) (A:Around) (outer:List Env) (s:Shared) (H:Hp) (vs:List V) (Q:VK) (E:XK),gV k (A.deeper (envOfC bX (ak st) s.heap.objs.size f fF))->sp vs H Q E ->
   ∃t,xQ (jE eF P w K mg base N bX (ak st) f fF A outer s H E).DN (cV st) t/\t {nx:=λ_ H'=>Q .bz H',rt:=Q} (c9 N vs) H):aQ P w K mg base eF (k+1) f fd ps sp:=by
 obtain⟨oc,od,kV,oN,pm,an,fF,ct,Ew,rfl,lk,Bg⟩:=F.ex;refine LI lk Bg S len λA outer s H vs Q E hr K3=>?_
 obtain⟨t,h,q⟩:=tQ fF A outer s H vs Q E hr K3;exact⟨t,h.DN,q⟩
theorem K5.rD {x bX:Str}{st:Stmt}{f:Addr}{fd:FuncData}{ps:List Str}(F:K5 K x bX st f fd)
  (h:∀(kV oN pm:Value) (an:Option Addr) (fF ct:Value) (us:List Value),us.length=ps.length->bindArgs (PySem.W.fnOf x bX (eU st) (cV st) (ak st) .none kV oN pm an fF ct) ⟨us,[]⟩=pure (ps.zip us)):fq K fd ps []:=by
 obtain⟨oc,od,kV,oN,pm,an,fF,ct,Ew,rfl,lk,Bg⟩:=F.ex;exact .all (h kV oN pm an fF ct)
theorem zW {x bX:Str}{st:Stmt}{f:Addr}{oc:Value}{od an:Option Addr}{Ew:Array (Option Value)}{kV oN pm fF ct:Value}(l:K.lookup f=some ⟨oc,od,.func (PySem.W.fnOf x bX (eU st) (cV st) (ak st) .none kV oN pm an fF ct),Ew⟩)
  (c:PySem.W.codeIn K fF bX=true) (k:PySem.W.keepIn K (.ref f)=true):K5 K x bX st f (PySem.W.fnOf x bX (eU st) (cV st) (ak st) .none kV oN pm an fF ct):=⟨⟨oc,od,kV,oN,pm,an,fF,ct,Ew,rfl,l,c⟩,k⟩
end
theorem pv (i:Nat)(hN:X.N[i]? = some x:=by rfl)(hv:Vis X.env.scope x:=by first|exact Or.inl rfl|exact Or.inr (Or.inl rfl)|exact Or.inr (Or.inr rfl))(hd:(x == ("__debug__" : Str))=false:=by decide)
  (Bg:(x == ("__classdict__" : Str))=false:=by decide):PE X (.Name x pos) (afY i):=Lj hN hv hd Bg
theorem Jl:jI X (.builtin "len") (λxs H Q=>∃a aK,xs=[V.ref a]/\H a=some (.dK aK)/\Q (.int aK.length) H):=by
 intro ah s σ H xs us Q I r h;obtain⟨a,aK,rfl,ha,q⟩:=h;obtain⟨u,rfl,ru⟩:=oz r;cases ru;exact agB I (.inl ha) λt s' I'=>⟨.int aK.length,H,I',⟨t,rfl⟩,q⟩
theorem Bx {A B:Prop}(h:B):if false=true then A else B:=by
 rw[if_neg zah];exact h
theorem BA {A B:Prop}(h:A):if true=true then A else B:=by
 rw[if_pos rfl];exact h
section
variable {κ:Type}[DecidableEq κ]
end
noncomputable def pH (env:Env):List (Str×NameKind)->List (Str×Addr)->List (Str×Addr)
 |[],cs=>cs
 | (n,k)::r,cs=>pH env r (if (k == NameKind.free)=true then (match env.cells.lookup n with|some c=>(n,c)::cs|none=>cs) else cs)
theorem EI (h:∀p∈scope.names,p.2 = .free->∃c,env.cells.lookup p.1=some c):closureFor scope env=pure (pH env scope.names []):=by
 have key:∀(l:List (Str×NameKind)) (cs:List (Str×Addr)),(∀p∈l,p.2 = .free->∃c,env.cells.lookup p.1=some c) ->
   (forIn l cs λ(x:Str×NameKind) (r:List (Str×Addr))=>match x with
    | (name,kind)=>if (kind == NameKind.free)=true then do let a <-cellOf env name;pure (ForInStep.yield ((name,a)::r)) else pure (ForInStep.yield r):Sem (List (Str×Addr)))=pure (pH env l cs):=by
  intro l;induction l with
  |nil=>intro cs _;rfl
  |cons p r ih =>
   intro cs hl;obtain⟨n,k⟩:=p;rw[List.forIn_cons];have hr:=λcs=>ih cs λq hq=>hl q (zaP _ hq)
   show (_ >>= _)=pure (pH env r (if (k == NameKind.free)=true then (match env.cells.lookup n with|some c=>(n,c)::cs|none=>cs) else cs))
   by_cases hk:(k == NameKind.free)=true
   ·obtain⟨c,hc⟩:=hl (n,k) zbZ (by simpa using hk)
    dsimp only at hc ⊢
    rw[if_pos hk,if_pos hk,hc];have e:cellOf env n=pure c:=by unfold cellOf;rw[hc]
    rw[e,pure_bind,pure_bind];exact hr _
   ·dsimp only
    rw[if_neg hk,if_neg hk,pure_bind];exact hr _
 unfold closureFor;rw[show (pure (pH env scope.names []):Sem (List (Str×Addr)))=(pure (pH env scope.names []) >>= λr=>pure r) from (bind_pure _).symm,<-key scope.names [] h]
theorem mV:∀{l:List (Str×NameKind)} {cs:List (Str×Addr)},(pH env l cs).lookup x=some c->cs.lookup x=some c\/env.cells.lookup x=some c
 |[],_,h=>.inl h
 | (n,k)::r,cs,h=>by
  rcases mV (l:=r) h with q|q
  ·by_cases hk:(k == NameKind.free)=true
   ·rw[if_pos hk] at q
    cases e:env.cells.lookup n with
    |none=>rw[e] at q;exact .inl q
    |some d =>
     rw[e] at q;dsimp only at q
     rw[zaV] at q;cases hx:x == n with
     |true =>
      rw[hx] at q;have:x=n:=by simpa using hx
      subst this;dsimp only at q
      rw[<-q];exact .inr e
     |false=>rw[hx] at q;exact .inl q
   ·rw[if_neg hk] at q;exact .inl q
  ·exact .inr q
theorem tX:∀{l:List (Str×NameKind)} {cs:List (Str×Addr)},((x,NameKind.free)∈l/\(∃c,env.cells.lookup x=some c))\/(∃c,cs.lookup x=some c)->∃c,(pH env l cs).lookup x=some c
 |[],cs,h=>by
  rcases h with⟨h,_⟩|h
  ·exact absurd h (by simp)
  ·exact h
 | (n,k)::r,cs,h=>by
  refine tX (l:=r) ?_
  rcases h with⟨h,hc⟩|h
  ·rcases zap.mp h with e|h
   ·have e1:x=n:=congrArg (·.1) e
    have e2:NameKind.free=k:=congrArg (·.2) e
    subst e1 e2;obtain⟨c,hc⟩:=hc;refine .inr ⟨c,?_⟩
    rw[if_pos (by decide),hc]
    simp[zaV]
   ·exact .inl ⟨h,hc⟩
  ·obtain⟨c,hc⟩:=h
   right
   by_cases hk:(k == NameKind.free)=true
   ·rw[if_pos hk]
    cases e:env.cells.lookup n with
    |none=>exact⟨c,hc⟩
    |some d =>
     dsimp only;rw[zaV];cases hx:x == n with
     |true=>exact⟨d,rfl⟩
     |false=>exact⟨c,hc⟩
   ·rw[if_neg hk];exact⟨c,hc⟩
theorem kX {env:Env}:∀{names:List (Str×NameKind)} {k:NameKind},
  (names.map λ(p:Str×NameKind)=>match p with | (n,k)=>if (k == NameKind.free && env.scope.kind == .function && env.kindOf n == some .cell)=true then (n,NameKind.cell) else (n,k)).lookup x=some k ->
  ∃k',names.lookup x=some k'/\(k'=k\/(k' = .free/\k = .cell))
 |[],_,h=>by simp at h
 | (n,k0)::r,k,h=>by
  rw[zat] at h;by_cases hc:(k0 == NameKind.free && env.scope.kind == .function && env.kindOf n == some .cell)=true
  ·dsimp only at h
   rw[if_pos hc,zaV] at h;rw[zaV];cases hx:x == n with
   |true =>
    rw[hx] at h;have e:NameKind.cell=k:=zav h
    have e0:k0 = .free:=by
     simp only[zcG,beq_iff_eq] at hc;exact hc.1.1
    exact⟨k0,rfl,.inr ⟨e0,e.symm⟩⟩
   |false=>rw[hx] at h;exact kX (names:=r) h
  ·dsimp only at h
   rw[if_neg hc,zaV] at h;rw[zaV];cases hx:x == n with
   |true=>rw[hx] at h;exact⟨k0,rfl,.inl (zav h)⟩
   |false=>rw[hx] at h;exact kX (names:=r) h
theorem kY {env:Env}:∀{names:List (Str×NameKind)},names.lookup x=some .free ->
  (names.map λ(p:Str×NameKind)=>match p with | (n,k)=>if (k == NameKind.free && env.scope.kind == .function && env.kindOf n == some .cell)=true then (n,NameKind.cell) else (n,k)).lookup x=some .cell \/
  (names.map λ(p:Str×NameKind)=>match p with | (n,k)=>if (k == NameKind.free && env.scope.kind == .function && env.kindOf n == some .cell)=true then (n,NameKind.cell) else (n,k)).lookup x=some .free
 |[],h=>by simp at h
 | (n,k0)::r,h=>by
  rw[zat];rw[zaV] at h;by_cases hc:(k0 == NameKind.free && env.scope.kind == .function && env.kindOf n == some .cell)=true
  ·dsimp only
   rw[if_pos hc,zaV];cases hx:x == n with
   |true=>exact .inl rfl
   |false=>rw[hx] at h;exact kY (names:=r) h
  ·dsimp only
   rw[if_neg hc,zaV];cases hx:x == n with
   |true=>rw[hx] at h;exact .inr h
   |false=>rw[hx] at h;exact kY (names:=r) h
theorem zX (I:Nat->Shared->Prop)
  (Lr:∀n s,I n s->wpAny (model prog w) A (pyNext it) (λr cN=>match r with
   |none=>R (.ok .next) cN
   |some v=>wpAny (model prog w) A (letOwnedTupleGo target it v) (λ_ VP=>wpAny (model prog w) A (assign target env v) (λ_ mQ =>
     wpAny (model prog w) A (forIn qI true λc r=>if r=true then do let ok <-isTrue c env (eval c env);pure (ForInStep.yield ok) else pure (ForInStep.yield r)) (λok wX =>
      if ok=true then wpAny (model prog w) A (eval yd env) (λx agX =>
       wpAny (model prog w) A (call (.builtin "list.append") [bU,x]) (λ_ agY=>∃m,m<n/\I m agY) (notedBy (model prog w) A env λe s'=>R (.error e) s') agX) (notedBy (model prog w) A env λe s'=>R (.error e) s') wX
      else ∃m,m<n/\I m wX) (notedBy (model prog w) A env λe s'=>R (.error e) s') mQ) (notedBy (model prog w) A env λe s'=>R (.error e) s') VP) (notedBy (model prog w) A env λe s'=>R (.error e) s') cN) (notedBy (model prog w) A env λe s'=>R (.error e) s') s)
  (n:Nat) (h:I n s):
  codeAny (model prog w) A (.compLoop (.ListComp yd [⟨target,dX,qI,0⟩] scope pos) 0 it bU env) R s:=by
 refine codeAny_loop rfl I (λn s hI=>?_) n h
 show wpAny _ A ((compTurn (.ListComp yd [⟨target,dX,qI,0⟩] scope pos) 0 it bU env).onRaise (λx=>do noteFrame x env;theTreesLotGoes x)) _ _ s
 refine wpAny_noted ?_
 rw[compTurn_list];refine zaa (zcg (zaa (zaQ (Lr n s hI) (λr cN RA=>?_) λ_ _ h'=>h')))
 cases r with
 |none=>exact zac RA
 |some v =>
  refine zaa (zaQ RA (λ_ VP agZ=>?_) λ_ _ h'=>h')
  refine zaa (zaQ agZ (λ_ mQ LK=>zaa (zaQ LK (λok wX RB=>?_) λ_ _ h'=>h')) λ_ _ h'=>h')
  cases ok with
  |false=>exact zac ⟨rfl,RB⟩
  |true =>
   exact zaa (zaa (zaQ RB (λx agX al7=>zaa (zaQ al7 (λ_ agY al8=>zac (zac ⟨rfl,al8⟩)) λ_ _ h'=>h')) λ_ _ h'=>h'))
noncomputable def pI (X:Cx)(N:List Str)(sc:Scope)(C:Addr)(fp:List Addr)(s:Shared)(H:Hp)(xe:Value->Shared->Prop):Cx:=
 {X with N:=N,s₀:= s,H₀:= H,env:=compEnvC sc (pH X.env sc.names []) C X.env,outer:=X.di,ex:=fp,fn:=λ_=>false,pn:=[],xe:=xe}
noncomputable def EJ (X:Cx)(qI:List Expr)(t:TT):Prop:=
 ∀(ah:List (Addr×Obj)) (s:Shared) (σ:St) (H:Hp) (Q:Bool->Hp->Prop),aJ X ah σ H s->t σ H Q ->
  wpAny (model X.prog X.w) X.A (forIn qI true λc r=>if r=true then do let ok <-isTrue c X.env (eval c X.env);pure (ForInStep.yield ok) else pure (ForInStep.yield r)) (TP X ah σ Q) X.xe s
noncomputable def ag0:TT:=λ_ H Q=>Q true H
theorem RX:EJ X [] ag0:=λah s σ H Q I h=>wpAny_tests_nil ⟨H,I,h⟩
theorem RY (h:PT X c t):EJ X [c] t:=λah s σ H Q I q=>wpAny_tests_one (h ah s σ H Q I q)
structure dc (X:Cx) (F T:List Str) (fr:List Nat) (sc:Scope):Prop where
 kind:sc.kind = .function
 L8:∀y∈sc.names,y.2 ≠ .cell
 locals:∀y∈sc.names,y.2 = .local->sc.names.lookup y.1=some .local
 L_:∀y∈sc.names,y.2 = .free->X.env.kindOf y.1=some .cell
 aau:∀x∈F,sc.names.lookup x=some .free
 eqs:fr.map (λj=>X.N[j]?)=F.map some
theorem dc.len (S:dc X F T fr sc):fr.length=F.length:=by
 have:=congrArg List.length S.eqs
 simpa using this
theorem dc.tM (S:dc X F T fr sc)(i:Nat)(x:Str)(h:F[i]? = some x):∃j,fr[i]? = some j/\X.N[j]? = some x:=by
 have e:=congrArg (λl=>l[i]?) S.eqs
 simp only[zas,h,zbL] at e;cases q:fr[i]? with
 |none=>rw[q] at e;cases e
 |some j=>rw[q] at e;exact⟨j,rfl,zav e⟩
noncomputable def kZ (fr:List Nat)(T:List Str)(σ:St):St:=(fr.map λj=>(σ[j]?).join)++T.map λ_=>none
noncomputable def GP (wi:TI)(fr:List Nat)(T:List Str)(g:TG)(ti:TT)(te:TE):TE:=λσ H Q=>wi σ H λJ H1=>∀D,H1 D=none ->
  ∃W:Nat->Nat->St->List V->Hp->Prop,(∃m,W 0 m (kZ fr T σ) [] (bu H1 D (.aM [])))/\∀i m fm xs H',W i m fm xs H'->H' D=some (.aM xs) /\
    ((J.stop i H'/\Q (.ref D) H')\/(J.go i H'/\∃N:St->List V->Hp->Prop,(∀A9 ys H2,N A9 ys H2->∃m',m' < m/\W (i+1) m' A9 ys H2)/\∀x H2,J.yld i H' x H2->g x fm H2 λA9 H3=>ti A9 H3 λb H4 =>
      if b=true then te A9 H4 λv H5=>H5 D=some (.aM xs)/\xs.length<sizeLine/\N A9 (xs++[v]) (bu H5 D (.aM (xs++[v]))) else N A9 xs H4))
theorem aav (S:dc X F T fr sc)(I:aJ X ah σ H s)
  (VQ:∀b∈fp,qD X ah H b) (hfo:∀b∈fp,b<s.heap.objs.size):(pI X (F++T) sc s.heap.objs.size fp s H xe).Ok:=by
 have cl:∀x c,(pH X.env sc.names []).lookup x=some c->X.env.cells.lookup x=some c:=λx c e=>(mV e).resolve_left (by simp)
 refine⟨I.ok.tF,?_,I.ok.tE,I.ok.VB,zaf _,λx y c h1 h2=>I.ok.inj x y c (cl _ _ h1) (cl _ _ h2),λx hx=>?_,λ_ _ h=>?_,I.ok.hd,I.ok.frames,.inl rfl,λb hb=>⟨zaq (hfo b hb),λx c e=>(VQ b hb).2.2.2.2.1 x c (cl _ _ e)⟩,I.bs,zai I.ok.QO I.sz,λb o e hb=>?_,λb hb=>?_,I.di,I.Gu⟩
 ·show (relabel sc X.env).kind=_
  exact S.kind
 ·have QU:∃k,(relabel sc X.env).names.lookup x=some k/\(k = .cell\/k = .free):=by
   rcases hx with h|h
   ·exact⟨_,h,.inl rfl⟩
   ·exact⟨_,h,.inr rfl⟩
  obtain⟨k,hk,hkk⟩:=QU;obtain⟨k',h1,h2⟩:=kX (env:=X.env) hk
  have hf:k' = .free:=by
   rcases h2 with h2|h2
   ·rcases hkk with z|z
    ·exact absurd (by rw[h2,z]) (S.L8 _ (zbb h1))
    ·rw[h2,z]
   ·exact h2.1
  rw[hf] at h1;have hm:=zbb h1;refine tX (.inl ⟨hm,?_⟩)
  exact I.ok.has x (.inl (S.L_ _ hm rfl))
 ·exact absurd h (by show ¬ (false=true);decide)
 ·rcases (VQ b hb).2.2.2.1 with z|z
  ·exact I.ok.jB b o e z
  ·exact absurd (zan (zal (I.ok.bs b o e).1) z) (zbd _)
 ·intro z
  rcases zap.mp (I.Ec b z) with q|q
  ·exact (VQ b hb).2.1 q
  ·exact (VQ b hb).2.2.1 q
theorem Ma (S:dc X F T fr sc)(I:aJ X ah σ H s)
  (VQ:∀b∈fp,qD X ah H b) (hfo:∀b∈fp,b<s.heap.objs.size) (hn:h4.Ns s.heap.objs.size m) (k:∀b o,s.heap.get? b=some o->h4.get? b=some o):
  aJ (pI X (F++T) sc s.heap.objs.size fp s H xe) [] (kZ fr T σ) H {s with heap:=h4,toks:=tk}:=by
 have cl:∀x c,(pH X.env sc.names []).lookup x=some c->X.env.cells.lookup x=some c:=λx c e=>(mV e).resolve_left (by simp)
 refine⟨aav S I VQ hfo,rfl,I.i6,Un.gA k,⟨m,hn,λi x v h1 h2 h3=>?_⟩,λx c e=>?_,I.cA.fresh (zaf _),λx c e=>I.lU x c (cl _ _ e),λp hp=>absurd (show p∈([]:List (Addr×Obj)) from hp) (by simp),I.cA.gA k,?_⟩
 ·have hi:i<fr.length:=by
   unfold kZ at h2;by_cases hi:i<fr.length
   ·exact hi
   ·rw[zau (by simpa using hi),zas] at h2
    cases q:T[i - (fr.map λj=>(σ[j]?).join).length]? with
    |none=>rw[q] at h2;cases h2
    |some y=>rw[q] at h2;cases h2
  have hF:F[i]? = some x:=by
   have h1:(F++T)[i]? = some x:=h1
   rw[zaj (by rw[<-S.len];exact hi)] at h1
   exact h1
  obtain⟨j,hj,hx⟩:=S.tM i x hF;have hv:σ[j]? = some (some v):=by
   unfold kZ at h2;rw[zaj (by simpa using hi),zas,hj] at h2
   have h2:some (σ[j]?).join=some (some v):=h2
   have h2:=zav h2;cases q:σ[j]? with
   |none=>rw[q] at h2;cases h2
   |some y=>rw[q] at h2;have h2:y=some v:=h2;rw[h2]
  have ama:x∈F:=zaR hF
  have xP:=S.aau x ama;have Bh:X.env.kindOf x=some .cell:=S.L_ _ (zbb xP) rfl
  obtain⟨m0,_,hl⟩:=I.Bd;obtain⟨u,ru,lk⟩:=hl j x v hx hv (.inr (.inl Bh))
  refine⟨u,ru,.inr ⟨kY (env:=X.env) xP,?_⟩⟩
  rcases lk with⟨z,_⟩|⟨_,c,hc,hic⟩
  ·rw[Bh] at z;cases z
  ·obtain⟨c',Q4⟩:=tX (env:=X.env) (x:=x) (l:=sc.names) (cs:=[]) (.inl ⟨zbb xP,c,hc⟩)
   have e:c'=c:=by have:=cl _ _ Q4;rw[hc] at this;exact (zav this).symm
   subst e;obtain⟨o,ho,hd⟩:=hic;exact⟨c',Q4,o,k _ _ ho,hd⟩
 ·obtain⟨v,o,ho,hd⟩:=I.cell x c (cl _ _ e)
  exact⟨v,o,k _ _ ho,hd⟩
 ·show (kZ fr T σ).length=(F++T).length
  unfold kZ;rw[zak,zak,zad,zad,S.len]
theorem BB (S:dc X F T fr sc)(hc:X.fL=true)(hi:PI X target dX wi)
  (hg:∀C fp s H xe,PG (pI X (F++T) sc C fp s H xe) target g) (Mb:∀C fp s H xe,EJ (pI X (F++T) sc C fp s H xe) qI ti) (he:∀C fp s H xe,PE (pI X (F++T) sc C fp s H xe) yd te)
  (hs:∀x,foldedSetIterable dX X.env x=pure x) {ah:List (Addr×Obj)} {s:Shared} {σ:St} {H:Hp} {Q:VK} {use:Option (Value->Sem Unit)} {QQ:Value->Shared->Prop} (I:aJ X ah σ H s) (h:GP wi fr T g ti te σ H Q)
  (fS:∀(D C:Addr) (fp:List Addr) (s3 s7:Shared) (H3 H6:Hp) (xe:Value->Shared->Prop) (Ls:St),aJ X ah σ H3 s3->(∀b∈fp,qD X ah H3 b)->s3.heap.objs.size=C->aJ (pI X (F++T) sc C fp s3 H3 xe) [] Ls H6 s7->Q (.ref D) H6->compPost (model X.prog X.w) X.A X.xe use QQ (.ref D) C (.ok .next) s7):
  wpAny (model X.prog X.w) X.A (comprehension (.ListComp yd [⟨target,dX,qI,0⟩] sc pos) sc X.env fZ (newList []) false (eval dX X.env) use) QQ X.xe s:=by
 refine wpAny_comprehension_free rfl hs (EI λp hp hf=>?_) S.kind S.locals ?_
 ·exact I.ok.has p.1 (.inl (S.L_ p hp hf))
 refine cM (hi ah s σ H _ I h) λv s1 h1=>cM h1 λitv s2 h2=>?_
 obtain⟨it,fp,tn,J,H2,e,I2,T2,st2,f2,hD⟩:=h2;subst e;have hfo:∀b∈fp,b<s2.heap.objs.size:=λb hb=>by
  obtain⟨o,e,_⟩:=T2.kT _ _ st2 b hb;exact zal e
 -- xN new list
 refine zaO ?_
 have hDn:H2 s2.heap.objs.size=none:=I2.cA.fresh (zaf _)
 obtain⟨W,⟨m0,w0⟩,Lr⟩:=hD s2.heap.objs.size hDn
 have I3:aJ X ah σ (bu H2 s2.heap.objs.size (.aM [])) { s2 with heap:=s2.heap.push { cls:=.type "list",dict:=none,data:=.seq ([]:List Value).toArray} }:=
  I2.jA (t':=s2.toks) (λb u e=>zab _ e) (zaf _) ⟨zcA _,[],0,.nil,zao _ rfl⟩
 generalize hs3:({ s2 with heap:=s2.heap.push { cls:=.type "list",dict:=none,data:=.seq ([]:List Value).toArray} }:Shared)=s3 at I3
 have amc:s3.heap.objs.size=s2.heap.objs.size+1:=by rw[<-hs3];exact zbU _ _
 have neD:∀b∈fp,b≠s2.heap.objs.size:=λb hb=>zaq (hfo b hb)
 have f3:∀b∈fp,qD X ah (bu H2 s2.heap.objs.size (.aM [])) b:=λb hb=>⟨by rw[av (neD b hb)];exact (f2 b hb).1,(f2 b hb).2⟩
 have amd:∀b∈fp,b<s3.heap.objs.size:=λb hb=>by rw[amc];exact Nat.lt_succ_of_lt (hfo b hb)
 have st3:tn 0 s3.heap:=T2.keep _ _ _ st2 λb hb o e=>by rw[<-hs3];exact zab _ e
 generalize hDD:s2.heap.objs.size=D at *
 -- xN frame
 refine wpAny_newFunctionEnv S.L8 (by intro y hy;simp at hy) (λh4 hn4 ame=>?_) S.kind
 have old:∀b o,s3.heap.get? b=some o->h4.get? b=some o:=λb o e=>ame.extBut b o (zaq (zal e)) (zab _ e)
 generalize RZ:s3.heap.objs.size=C at *
 let R:Result->Shared->Prop:=compPost (model X.prog X.w) X.A X.xe use QQ (.ref D) C
 let xe:Value->Shared->Prop:=notedBy (model X.prog X.w) X.A (compEnvC sc (pH X.env sc.names []) C X.env) λe s'=>R (.error e) s'
 have I4:aJ (pI X (F++T) sc C fp s3 (bu H2 D (.aM [])) xe) [] (kZ fr T σ) (bu H2 D (.aM [])) {s3 with heap:=h4,toks:=s3.toks+([]:List (Str×Value)).length}:=by
  subst RZ;exact Ma S I3 f3 amd hn4 old
 have st4:tn 0 h4:=T2.keep _ _ _ st3 λb hb o e=>old b o e
 have Eh:∀{H':Hp},(∀b∈fp,H' b=none)->∀b∈fp,qD (pI X (F++T) sc C fp s3 (bu H2 D (.aM [])) xe) [] H' b:=λ{H'} hn b hb=>by
  refine⟨hn b hb,?_,?_,.inl hb,λx c e=>?_,λp hp=>absurd (show p∈([]:List (Addr×Obj)) from hp) (by simp)⟩
  ·exact (I4.ok.exf b hb).1
  ·exact I4.ok.Eb b hb
  ·exact (I4.ok.exf b hb).2 x c e
 have Q2:∀s5:Shared,s5 = {s3 with heap:=h4,toks:=s3.toks+([]:List (Str×Value)).length} ->
   codeAny (model X.prog X.w) X.A (.compLoop (.ListComp yd [⟨target,dX,qI,0⟩] sc pos) 0 (.ref it) (.ref D) (compEnvC sc (pH X.env sc.names []) C X.env)) R s5:=by
  rintro s5 rfl
  refine zX (λn s'=>∃i fm xs H',aJ (pI X (F++T) sc C fp s3 (bu H2 D (.aM [])) xe) [] fm H' s'/\tn i s'.heap/\(∀b∈fp,H' b=none)/\W i n fm xs H') ?_ m0 ⟨0,_,[],_,I4,st4,λb hb=>(f3 b hb).1,w0⟩
  rintro n s6 ⟨i,Ls,xs,H6,I6,st6,fr6,w6⟩
  obtain⟨hD6,tt⟩:=Lr i n Ls xs H6 w6;rcases tt with⟨stop,qn⟩|⟨go,NN,hNN,sr⟩
  ·refine cM (T2.done (pI X (F++T) sc C fp s3 (bu H2 D (.aM [])) xe) rfl rfl rfl hc i [] s6 Ls H6 xe I6 (Eh fr6) st6 stop) λr s7 b_=>?_
   obtain⟨hr,I7⟩:=b_;subst hr;exact fS D C fp s3 s7 _ H6 xe Ls I3 f3 RZ I7 qn
  ·refine cM (T2.item (pI X (F++T) sc C fp s3 (bu H2 D (.aM [])) xe) rfl rfl rfl hc i [] s6 Ls H6 xe I6 (Eh fr6) st6 go) λr s7 cX=>?_
   obtain⟨u,hr,h7⟩:=cX;subst hr;refine cM h7 λ_ s8 dP=>?_
   obtain⟨x,H8,I8,r8,y8,st8,fr8⟩:=dP;have I8':=I8.Lq (Eh fr8) (T2.kT _ _ st8)
   have ag1:∀{s9:Shared} {R0:St} {H9:Hp},aJ (pI X (F++T) sc C fp s3 (bu H2 D (.aM [])) xe) ([]++tL fp s8.heap) R0 H9 s9->aJ (pI X (F++T) sc C fp s3 (bu H2 D (.aM [])) xe) [] R0 H9 s9/\tn (i+1) s9.heap/\∀b∈fp,H9 b=none:=λ{s9 R0 H9} I9=>by
    refine⟨I9.pe,T2.keep _ _ _ st8 λb hb o e=>(I9.DM (b,o) (zaM _ (zaM _ (kU hb e)))).1,λb hb=>?_⟩
    obtain⟨o,e,d⟩:=T2.kT _ _ st8 b hb;exact (I9.DM (b,o) (zaM _ (zaM _ (kU hb e)))).2.1
   refine cM (hg C fp s3 _ xe _ s8 Ls H8 x u _ I8' r8 (sr x H8 y8)) λ_ s9 kg=>?_
   obtain⟨R0,H9,I9,q9⟩:=kg;refine cM (Mb C fp s3 _ xe _ s9 R0 H9 _ I9 q9) λok s10 iy=>?_
   obtain⟨H10,I10,q10⟩:=iy;cases ok with
   |false =>
    rw[if_neg zah] at q10 ⊢
    obtain⟨m',hm,w'⟩:=hNN _ _ _ q10;obtain⟨b1,b2,b3⟩:=ag1 I10;exact⟨m',hm,i+1,R0,xs,H10,b1,b2,b3,w'⟩
   |true =>
    rw[if_pos rfl] at q10 ⊢
    refine cM (he C fp s3 _ xe _ s10 R0 H10 _ I10 q10) λiz s11 jj=>?_
    obtain⟨Mc,H11,I11,r11,ami,hz,q11⟩:=jj;obtain⟨m',hm,w'⟩:=hNN _ _ _ q11;refine cM (ya _ s11 R0 H11 (.ref D) [Mc] (.ref D) [iz] (λ_ H'=>H'=bu H11 D (.aM (xs++[Mc]))) I11 rfl (.cons r11 .nil) ⟨D,xs,Mc,rfl,rfl,ami,hz,rfl⟩) λ_ s12 f6=>?_
    obtain⟨_,H12,I12,_,e12⟩:=f6;subst e12;obtain⟨b1,b2,b3⟩:=ag1 I12;exact⟨m',hm,i+1,R0,_,_,b1,b2,b3,w'⟩
 have st5:codeAny (model X.prog X.w) X.A (.compStart (.ListComp yd [⟨target,dX,qI,0⟩] sc pos) 0 (.ref it) (.ref D) (compEnvC sc (pH X.env sc.names []) C X.env)) R {s3 with heap:=h4,toks:=s3.toks+([]:List (Str×Value)).length}:=
  codeAny_compStart_list (Q2 _ rfl) (T2.self _ 0 _ _ _ st4 (Q2 _ rfl))
 subst hs3;exact st5
theorem GQ (S:dc X F T fr sc)(hc:X.fL=true)(hi:PI X target dX wi)
  (hg:∀C fp s H xe,PG (pI X (F++T) sc C fp s H xe) target g) (Mb:∀C fp s H xe,EJ (pI X (F++T) sc C fp s H xe) qI ti) (he:∀C fp s H xe,PE (pI X (F++T) sc C fp s H xe) yd te)
  (hs:∀x,foldedSetIterable dX X.env x=pure x:=by intro _;rfl):PE X (.ListComp yd [⟨target,dX,qI,0⟩] sc pos) (GP wi fr T g ti te):=by
 intro ah s σ H Q I h;rw[eval_ListComp];refine BB S hc hi hg Mb he hs I h λD C fp s3 s7 H3 H6 xe Ls I3 f3 RZ I7 qn=>?_
 obtain⟨m7,hn7,_⟩:=I7.Bd;refine⟨m7,hn7,λh8 VR=>⟨.ref D,H6,?_,rfl,qn⟩⟩
 have hCn:H6 C=none:=I7.free
 have un8:Un (sN X.di) fp (H3) H6 s3.heap h8:=by
  have u7:Un (sN X.di) fp (H3) H6 s3.heap s7.heap:=I7.base
  have nC:∀b o,s3.heap.get? b=some o->b≠C:=λb o e=>by rw[<-RZ];exact zaq (zal e)
  refine⟨λb o e n hb hx=>(VR.2 b (nC b o e)).trans (u7.keep b o e n hb hx),λb o e n hb hx=>?_,u7.free,λb o e hx=>?_,u7.wV,u7.tD,u7.wW⟩
  ·obtain⟨sl,q⟩:=u7.slot b o e n hb hx
   exact⟨sl,(VR.2 b (nC b o e)).trans q⟩
  ·obtain⟨o',q⟩:=u7.there b o e hx
   exact⟨o',(VR.2 b (nC b o e)).trans q⟩
 have aml:oh X.prog X.w H6 h8:=λb ob e=>by
  refine (I7.cA b ob e).sj (λc w' hc q=>(VR.2 c ?_).trans q) (λ_ q=>q) λ_ _ q=>q
  rintro rfl
  rcases hc with rfl|hc
  ·rw[hCn] at e;cases e
  ·rw[hCn] at hc;cases hc
 refine I3.Gw (s':={s7 with heap:=h8}) (H':=H6) (ch:=fp) I7.os un8 aml I7.i6 λb hb=>?_
 obtain⟨_,q1,_,q2,q3,q4⟩:=f3 b hb;exact⟨q2,q1,q3,q4⟩
noncomputable def amm:V->Option Int->Option Int->Hp->VK->Prop:=λx lo hi H Q=>∃z,x = .str z/\z.length<=sizeLine/\Q (.str (Txt.slice z lo hi)) H
theorem aaw:SlR X amm:=by
 intro ah s σ H x v vl vu lo hi sl Q I rx hs pl pu h;obtain⟨z,rfl,hz,q⟩:=h;obtain⟨t,rfl⟩:=(show ∃t,v=Value.str z t from rx)
 refine⟨"str",_,F.slot_str_getitem.lookup,typeIs_str _ _ _,?_⟩
 have key:∀(l u:Option (Int×Tok)),s.heap.IsSlice sl l u none->l.map (·.1)=lo->u.map (·.1)=hi->wpAny (model X.prog X.w) X.A (getItem (.str z t) (.ref sl)) (EP X ah σ Q) X.xe s:=by
  intro l u hsl e1 e2;subst e1 e2;exact wpAny_getItem_str_slice (st:=none) hsl rfl (post_val_or_str ⟨zai (Txt.slice_le z _ _) hz,λt' k=>⟨.str (Txt.slice z (l.map (·.1)) (u.map (·.1))),H,I.o8 k,⟨t',rfl⟩,q⟩⟩)
 cases pl with
 |none=>cases pu with
  |none=>exact key none none hs rfl rfl
  |int j t'=>exact key none (some (j,t')) hs rfl rfl
 |int i ti=>cases pu with
  |none=>exact key (some (i,ti)) none hs rfl rfl
  |int j t'=>exact key (some (i,ti)) (some (j,t')) hs rfl rfl
noncomputable def pJ (z:Str)(n:Nat):Str:=⟨(List.replicate n z.cps).foldl (·++·) #[]⟩
noncomputable def ag2:R2:=λx y H Q=>∃z n,x = .str z/\y = .int n/\0<=n/\n<1000000/\z.length * n.toNat<=1000000/\Q (.str (pJ z n.toNat)) H
theorem Me (z:Str):pJ z 1=z:=by
 obtain⟨c⟩:=z;simp[pJ]
theorem w_ (h:z.length=0)(n:Nat):pJ z n=z:=by
 obtain⟨c⟩:=z;have e:c = #[]:=by simpa[Str.length] using h
 subst e;unfold pJ;congr 1
 induction n with
 |zero=>rfl
 |succ n ih=>rw[zaz,zbf];simpa using ih
theorem EL:kQ X (binaryOp .Mult) ag2:=by
 intro ah s σ H x y v u Q I rx ry h;obtain⟨z,n,rfl,rfl,h0,h1,h2,q⟩:=h;obtain⟨t,rfl⟩:=(show ∃t,v=Value.str z t from rx)
 obtain⟨t',rfl⟩:=(show ∃t,u=Value.int n t from ry)
 have hz:z.length * n.toNat<=sizeLine:=zai h2 (by decide)
 refine P.mul_str (by
  have e1:¬ n < -(2 ^ 63:Int):=by omega
  have e2:¬ n ≥ 2 ^ 63:=by omega
  rw[decide_eq_false e1,decide_eq_false e2];rfl) (λhn _ hc=>?_) (λ_ _=>?_) ?_
 ·have ag3:0<n:=by omega
  have e3:(z.length:Int) * n<=1000000:=by
   have:((z.length * n.toNat:Nat):Int)<=((1000000:Nat):Int):=Int.ofNat_le.mpr h2
   rw[Int.natCast_mul,Int.toNat_of_nonneg h0] at this;exact this
  have e4:(z.length:Int)<=(2 ^ 63 - 1) / n:=by
   rw[Int.le_ediv_iff_mul_le ag3];omega
  omega
 ·unfold Builtin.Str.tooLong
  exact decide_eq_false (by omega)
 ·by_cases hn:n<1
  ·rw[if_pos hn]
   have e:n=0:=by omega
   subst e;exact⟨by decide,⟨.str _,H,I.o8 _,⟨_,rfl⟩,q⟩⟩
  ·rw[if_neg hn]
   by_cases hc:(n == 1 || z.length == 0)=true
   ·rw[if_pos hc]
    have e:pJ z n.toNat=z:=by
     rcases zea _ _ ▸ hc with e|e
     ·have e:n=1:=by simpa using e
      subst e;exact Me z
     ·exact w_ (by simpa using e) _
    rw[e] at q;exact⟨.str z,H,I,⟨t,rfl⟩,q⟩
   ·rw[if_neg hc]
    refine⟨?_,⟨.str _,H,I.o8 _,⟨_,rfl⟩,q⟩⟩
    have:∀(k:Nat) (a:Array Nat),((List.replicate k z.cps).foldl (·++·) a).size=a.size+k * z.cps.size:=by
     intro k;induction k with
     |zero=>intro a;simp
     |succ k ih=>intro a;rw[zaz,zbf,ih,Array.size_append,Nat.succ_mul];omega
    show ((List.replicate n.toNat z.cps).foldl (·++·) #[]).size<=sizeLine
    rw[this];have e5:z.cps.size=z.length:=rfl
    rw[e5];simp only[zam,zba,zcP];rw[Nat.mul_comm];exact hz
noncomputable def amn (K:PySem.W.Frag):List V->Hp->VK->Prop:=λxs H Q=>∃x c u t b,xs=[x,c]/\(c = .ty u\/False)/\pq K H x t/\PySem.W.kitOne K t (.type u)=some b/\Q (.bl b) H
theorem Mf:jI X (.builtin "isinstance") (amn X.K):=by
 intro ah s σ H xs us Q I r h;obtain⟨x,c,u,t,b,rfl,hc,ty,e,q⟩:=h;rcases hc with rfl|hc
 ·obtain⟨v1,v2,rfl,r1,r2⟩:=r.two
  cases (show v2=Value.type u from r2)
  exact I0 I r1 ty e λtk=>⟨.bl b,H,I.o8 tk,rfl,q⟩
 ·exact hc.elim
noncomputable def sP:List Value:=[.type "ValueError",.type "Exception",.type "BaseException",.type "object"]
theorem GR:sP.contains (.type "ValueError")=true:=by decide +kernel
noncomputable def k8 (C:Addr)(od:Option Addr)(t:Addr):Obj:={cls:=.ref C,dict:=od,data:=.fields #[.ref t,.none,.none,.none,.bool false,.none]}
noncomputable def EO (a C:Addr)(od:Option Addr):HO:=.ext λh=>∃t:Addr,h.get? a=some (k8 C od t)
noncomputable def ED (d:Addr)(fs:List (Str×V)):HO:=.ext λh=>∃mA,h.Ns1 d mA/\(∀f,ji (fs.lookup f) (mA f))/\PySem.Within mA (fs.map (·.1))
theorem Mg (e:h.get? a=some (k8 C od t)):bZ P w H h a (EO a C od):=
 ⟨⟨t,e⟩,⟨_,e⟩,λh1 h2 b_ k=>by obtain⟨t,q⟩:=b_;exact⟨t,k _ q⟩⟩
theorem Mh (e:h.Ns1 d mA)(r:∀f,ji (fs.lookup f) (mA f))(wi:PySem.Within mA (fs.map (·.1))):bZ P w H h d (ED d fs):=
 ⟨⟨mA,e,r,wi⟩,(let ⟨o,_,_,e',_⟩:=e;⟨o,e'⟩),λh1 h2 cX k=>by obtain⟨mA,q,r,wi⟩:=cX;exact⟨mA,q.at λo z=>k o z,r,wi⟩⟩
section
variable {prog:Program}{w:World}{A:Around}{E:Value->Shared->Prop}{h:Heap}{g:Array GenState}{d:Drawn}{t:Nat}{os:OsState}{K:PySem.W.Frag}
variable {nm q:Str}{C N:Addr}{bs bm:List Value}{xg:Bool}{sn:List Str}{sub:List Value}{ab:Bool}{tY:Option Bool}{dd:Option Addr}{k0 k1 k2 k3 k5:Option Value}
theorem sE (X:K.In h)(T:OwnTail h sP bm){dm:List Value} 
  (hC:h.get? C=some (excClassObj nm q C N bs bm xg sn sub ab tY dd k0 k1 k2 k3 k5 "ValueError.__new__"))
  (hi:PySem.W.findIn K (.ref C) "__init__"=some (some (.ref fI))) (hf:PySem.W.typeIn K (.ref fI)=some (.type "function"))
  (hq:wpAny (model prog w) A (call (.ref fI) (.ref (h.objs.size+1)::dm)) (λr s'=>r = .none/\Q (.done (.ret (.ref (h.objs.size+1)))) s') E
   ⟨(h.push { cls:=.type "tuple",data:=.seq dm.toArray}).push (k8 C none h.objs.size),g,d,t,os⟩) (hrest:dm.length<=sizeLine):
  wpAny (model prog w) A (Builtin.«type.__call__» ⟨.ref C::dm,[]⟩) Q E ⟨h,g,d,t,os⟩:=by
 have F:ExcBaseFacts "ValueError" "ValueError.__new__" "ValueError.__init__" sP:=F.excBase_ValueError
 repeat (first|with_reducible refine zbN hC ?_|with_reducible refine wpAny_madeBy_exc hC ?_|wp_step)
 refine codeAny_call_builtin_code (Code.quiet_builtin _ F.quiet) (wpAny_check_new_subU F GR T hC ?_)
 refine codeAny_exc_new_subU F GR F T hC ?_ hrest
 show wpAny _ _ _ _ _ _
 have up:∀b o,h.get? b=some o->((h.push { cls:=.type "tuple",data:=.seq dm.toArray}).push {cls:=.ref C,data:=.fields #[.ref h.objs.size,.none,.none,.none,.bool false,.none]}).get? b=some o:=
  λb o e=>zab _ (zab _ e)
 have ag4:=up _ _ hC;have ag5:K.In _:=X.keeps up
 have amo:((h.push { cls:=.type "tuple",data:=.seq dm.toArray}).push
   {cls:=.ref C,data:=.fields #[.ref h.objs.size,.none,.none,.none,.bool false,.none]}).get? (h.objs.size+1)=some
   {cls:=.ref C,data:=.fields #[.ref h.objs.size,.none,.none,.none,.bool false,.none]}:=by heap_get
 have hcC:(Value.ref C::bm).contains (.ref C)=true:=by simp
 unfold isInstance;repeat (first|with_reducible refine zbN amo ?_ | (with_reducible refine zcJ ag4 ?_;rw[hcC])|wp_step)
 show wpAny _ _ (typeLookup (.ref C) _) _ _ _
 refine (zdg ag5 hi).here ?_
 refine zaH (zaa ?_)
 unfold bindSpecial;refine zaa ((PySem.W.looks_typeIn ag5 hf).here ?_)
 rw[if_pos (by decide)]
 refine zac (zaa (zaQ hq (λr s' hr=>?_) λ_ _ x=>x))
 obtain⟨rfl,hQ⟩:=hr;wp_walk
 exact hQ
theorem EM (X:K.In h)(T:OwnTail h sP bm){dm:List Value} 
  (hC:h.get? C=some (excClassObj nm q C N bs bm xg sn sub ab tY dd k0 k1 k2 k3 k5 "ValueError.__new__"))
  (hi:PySem.W.findIn K (.ref C) "__init__"=some (some (.ref fI))) (hf:PySem.W.typeIn K (.ref fI)=some (.type "function"))
  (hq:wpAny (model prog w) (A.under (.builtin "type.__call__" ⟨.ref C::dm,[]⟩)) (call (.ref fI) (.ref (h.objs.size+1)::dm)) (λr s'=>r = .none/\Q (.ref (h.objs.size+1)) s') E
   ⟨(h.push { cls:=.type "tuple",data:=.seq dm.toArray}).push (k8 C none h.objs.size),g,d,t,os⟩) (hrest:dm.length<=sizeLine):
  wpAny (model prog w) A (call (.ref C) dm) Q E ⟨h,g,d,t,os⟩:=by
 have f1:=tc_lookup;have f2:=tc_bind (.ref C)
 have hT:(⟨h,g,d,t,os⟩:Shared).TypeIs (.ref C) "type" := ⟨_,hC,rfl⟩
 refine zdh (codeAny_of_tree ?_)
 show wpAny _ _ (callAny (.ref C) _) _ _ _
 repeat (any_goals (first|assumption|with_reducible refine zbN hC ?_|wp_step))
 refine⟨rfl,?_⟩
 exact codeAny_call_builtin_at (Code.quiet_builtin _ (by decide +kernel)) entry_typeCall (wpAny_check_type_call_sub hC (sE (hrest:=hrest) X T hC hi hf hq))
end
structure sQ (K:PySem.W.Frag) (C f:Addr) (bm:List Value):Prop where
 kT:∃nm q N bs sn sub ab tY dd k0 k1 k2 k3 k5,K.lookup C=some (excClassObj nm q C N bs bm true sn sub ab tY dd k0 k1 k2 k3 k5 "ValueError.__new__")
 tail:PySem.W.tailIn K sP bm=true
 init:PySem.W.findIn K (.ref C) "__init__"=some (some (.ref f))
 fn:PySem.W.typeIn K (.ref f)=some (.type "function")
 kp:PySem.W.keepIn K (.ref C)=true
 sa:PySem.W.findIn K (.ref C) "__setattr__"=some (some (.builtin "object.__setattr__"))
 ga:PySem.W.findIn K (.ref C) "__getattribute__"=some (some (.builtin "BaseException.__getattribute__"))
 gg:PySem.W.findIn K (.ref C) "__getattr__"=some none
 kc:PySem.W.findIn K (.ref C) "__class__"=some (some (.builtin "object.__class__"))
 nb:∃B,bm = .ref B::sP
theorem BC (h:H a=some o):bu H a o=H:=by
 funext b
 unfold bu;split
 ·rename_i e;rw[e,h]
 ·rfl
section
variable {X:Cx}{CX:DO}{k:Nat}{f C:Addr}{bm:List Value}{fd:FuncData}{ps:List Str}{sp:Sp}{nK:List V}{ds:List Value}{E:XK}{x m:Str}{p pos eO:Pos}{e o:Expr}{es:List Expr}{ta:TE}{t:TA}
noncomputable def amq (C:Addr)(sp:Sp)(nK:List V)(E:XK)(t:TA):TE:=λσ H Q=>t σ H λvs H1=>vs.length<=1000/\∀x,H1 x=none ->
 sp (.ref x::(vs++nK)) (bu H1 x (EO x C none)) (λv H2=>v = .bz/\Q (.ref x) H2) E
theorem R6 (M:sQ X.K C f bm)(F:aQ X.prog X.w X.K X.mg X.base CX k f fd ps sp)(hr:gV (k+1) X.A)(hb:fq X.K fd ps ds)(hd:bA nK ds)
  (hx:gF CX X E) (I:aJ X ah σ H s) (r:bA vs us) (hz:vs.length<=1000)
  (h:∀x,H x=none->sp (.ref x::(vs++nK)) (bu H x (EO x C none)) (λv H2=>v = .bz/\Q (.ref x) H2) E):
  wpAny (model X.prog X.w) X.A (call (.ref C) us) (EP X ah σ Q) X.xe s:=by
 obtain⟨nm,q,N,bs,sn,sub,ab,tY,dd,k0,k1,k2,k3,k5,lk⟩:=M.kT;have KX:=I.kO;have hq:=h (s.heap.objs.size+1) (I.cA.fresh (zbE _))
 have hsz:us.length<=sizeLine:=by
  rw[<-r.length];exact zai hz (by decide)
 have e2:((s.heap.push { cls:=.type "tuple",data:=.seq us.toArray}).push (k8 C none s.heap.objs.size)).get? (s.heap.objs.size+1)=some (k8 C none s.heap.objs.size):=by
  have:=zao (s.heap.push { cls:=.type "tuple",data:=.seq us.toArray}) (o:=k8 C none s.heap.objs.size) rfl
  rwa[zbU] at this
 have up:∀b o,s.heap.get? b=some o->((s.heap.push { cls:=.type "tuple",data:=.seq us.toArray}).push (k8 C none s.heap.objs.size)).get? b=some o:=λb o e=>zab _ (zab _ e)
 have I2:aJ X ah σ (bu H (s.heap.objs.size+1) (EO (s.heap.objs.size+1) C none)) { s with heap:=(s.heap.push { cls:=.type "tuple",data:=.seq us.toArray}).push (k8 C none s.heap.objs.size)}:=
  I.jA (t':=s.toks) up (zbE _) (Mg e2)
 have r2:bA (V.ref (s.heap.objs.size+1)::(vs++nK)) (Value.ref (s.heap.objs.size+1)::(us++ds)):=.cons rfl (r.jh hd)
 have hl:(Value.ref (s.heap.objs.size+1)::us++ds).length=ps.length:=by
  have e:=r2.length;rw[F.len _ _ _ _ hq] at e;exact e.symm
 have fS:wpAny (model X.prog X.w) (X.A.under (.builtin "type.__call__" ⟨.ref C::us,[]⟩)) (call (.ref f) (.ref (s.heap.objs.size+1)::us)) (λr s'=>r = .none/\EP X ah σ Q (.ref (s.heap.objs.size+1)) s') X.xe
   { s with heap:=(s.heap.push { cls:=.type "tuple",data:=.seq us.toArray}).push (k8 C none s.heap.objs.size)}:=by
  refine zdh (zcN (F.kW _ X.di _ _ ⟨Value.ref (s.heap.objs.size+1)::us,[]⟩ (Value.ref (s.heap.objs.size+1)::(us++ds)) _ _ E (hr.LC C us [])
   (I2.Bl.LC C us []) (hb _ (Value.ref (s.heap.objs.size+1)::us) I2.kO hl) r2 hq) λr s' LH=>?_)
  cases r with
  |error e=>exact hx ah σ _ _ e s' I2 LH
  |ok fl =>
   cases fl with
   |ret u =>
    obtain⟨v,H',I3,rv,ev,q3⟩:=I2.after LH;subst ev;exact⟨rv,⟨V.ref (s.heap.objs.size+1),H',I3,rfl,q3⟩⟩
   |next=>exact False.elim LH
   |brk=>exact False.elim LH
   |cont=>exact False.elim LH
 exact EM (g:=s.gens) (d:=s.drawn) (t:=s.toks) (os:=s.os) KX (zeO KX M.tail) (KX _ _ lk) M.init M.fn fS hsz
theorem aax (M:sQ X.K C f bm)(F:aQ X.prog X.w X.K X.mg X.base CX k f fd ps sp)(hr:gV (k+1) X.A)(hg:Gl X x)(hm:X.mg x=some (.ref C))(hb:fq X.K fd ps ds)(hd:bA nK ds)(hx:gF CX X E)
  (ha:PA X (e::es) t) (tP:(x == ("__debug__" : Str))=false:=by decide) (he:starEach (e::es) X.env=(false,eval e X.env)::starEach es X.env:=by rfl) (hpl:(backTo pos (starEach es X.env)).any (·.1)=false:=by rfl):
  PE X (.Call (.Name x p) (e::es) [] pos) (amq C sp nK E t):=by
 intro ah s σ H Q I h;refine zcu (nI I hg hm ?_ tP)
 refine zcO (h₀:= X.base) I.ok.tF.Zt M.kp (cM (ha pos ah s σ H _ I h) λus s1 ⟨vs,H1,I1,r,hz,q⟩=>⟨I1.kO,?_⟩) he hpl
 exact R6 M F hr hb hd hx I1 r hz q
structure VS (K:PySem.W.Frag) (B:Addr):Prop where
 sp:PySem.W.specialIn K (.ref B) "__getattribute__"=some (some (.builtin "type.__getattribute__"))
 rd:PySem.W.readsIn K B (.type "type")=true
 fc:PySem.W.findCls K (.ref B) (.type "type") "__init__"=some (.val (.builtin "ValueError.__init__"))
noncomputable def aay (K:PySem.W.Frag)(t:TA):TE:=λσ H Q=>t σ H λvs H1=>∃a C f bm od y,vs=[.ref a,y]/\H1 a=some (EO a C od)/\sQ K C f bm/\Q .bz H1
theorem Mi (M:sQ X.K C f bm)(I:aJ X ah σ H s)(hH:H a=some (EO a C od))(q:Q .bz H):
  wpAny (model X.prog X.w) X.A (call (.builtin "ValueError.__init__") [.ref a,u]) (EP X ah σ Q) X.xe s:=by
 obtain⟨nm,q',N,bs,sn,sub,ab,tY,dd,k0,k1,k2,k3,k5,lk⟩:=M.kT;have KX:=I.kO;have F:ExcBaseFacts "ValueError" "ValueError.__new__" "ValueError.__init__" sP:=F.excBase_ValueError
 obtain⟨⟨t0,ha⟩,_,_⟩:=(show bZ X.prog X.w H s.heap a (EO a C od) from I.cA a _ hH)
 have hC:=KX _ _ lk;have T:=zeO KX M.tail;obtain⟨h,g,d,tk,os⟩:=s;refine zdh (codeAny_call_builtin F.init.plain F.initEntry (wpAny_check_init_subU F T hC ha rfl ?_))
 have R7:h.get? a=some {cls:=.ref C,dict:=od,data:=.fields #[.ref t0,.none,.none,.none,.bool false,.none]}:=ha
 wp_walk
 have up:∀b o,h.get? b=some o->(h.push { cls:=.type "tuple",data:=.seq #[u]}).get? b=some o:=λb o e=>zab _ e
 have I1:aJ X ah σ H ⟨h.push { cls:=.type "tuple",data:=.seq #[u]},g,d,tk,os⟩:=I.gA (t':=tk) up
 have e1:((h.push { cls:=.type "tuple",data:=.seq #[u]}).update a (Obj.mapFields λx=>x.setIfInBounds 0 (Value.ref h.objs.size))).get? a=some (k8 C od h.objs.size):=by
  rw[zaW _ (up _ _ R7) rfl];rfl
 have I2:=I1.jH (x:=a) (e:=a) (o:=EO a C od) (t':=tk) (h':=(h.push { cls:=.type "tuple",data:=.seq #[u]}).update a (Obj.mapFields λx=>x.setIfInBounds 0 (Value.ref h.objs.size)))
  (by rw[hH];exact True.intro) (.inl rfl) (λb z hb e=>(zaB _ _ (zbg hb)).trans e) ⟨_,e1⟩ (Mg e1)
 rw[BC hH] at I2;exact⟨.bz,H,I2,rfl,q⟩
theorem Mj (EB:VS X.K B)(hg:Gl X x)(hm:X.mg x=some (.ref B))(ha:PA X [e,e2] t)(tP:(x == ("__debug__" : Str))=false:=by decide)
  (qy:starEach [e,e2] X.env=(false,eval e X.env)::starEach [e2] X.env:=by rfl) (hpl:(backTo pos (starEach [e2] X.env)).any (·.1)=false:=by rfl)
  (ht:eval (.Call (.Attribute (.Name x p) "__init__" eO) [e,e2] [] pos) X.env=(do
   let ov <-eval (.Name x p) X.env
   standAt eO.atName
   let (f,first) <-holding [ov] (getMethod ov "__init__" pl)
   callWith pos f first (backTo pos (starEach [e,e2] X.env)) (backToKw pos (keywordEach [] X.env))):=by rfl):
  PE X (.Call (.Attribute (.Name x p) "__init__" eO) [e,e2] [] pos) (aay X.K t):=by
 intro ah s σ H Q I h;refine zde (pl:=pl) (nI I hg hm ?_ tP) ht
 refine PySem.W.method_cls I.kO EB.sp (PySem.W.cls_value I.kO EB.rd EB.fc rfl ?_)
 have I1:=I.o8 (s.toks+1)
 have hA:=ha pos ah {s with toks:=s.toks+1} σ H _ I1 h
 rw[qy] at hA ⊢
 refine zcB (by show (false || (backTo pos (starEach [e2] X.env)).any (·.1))=false;rw[hpl]<;>rfl) (zdi ?_)
 refine cM hA λus s2 cX=>?_
 obtain⟨vs,H2,I2,r2,a,C',f',K6,od,y,ev,hH,M,q⟩:=cX;subst ev;obtain⟨u1,u2,rfl,ru1,_⟩:=r2.two;cases (show u1=Value.ref a from ru1)
 exact Mi M I2 hH q
end
theorem aaz (e:h.get? a=some (k8 C none t)):PySem.W.InstAt h a (k8 C none t) C none:=⟨e,rfl,rfl,True.intro⟩
theorem aaA (e:h.get? a=some (k8 C (some d) t))(hd:h.get? d=some o):PySem.W.InstAt h a (k8 C (some d) t) C (some o):=⟨e,rfl,rfl,hd⟩
theorem EN (self:Value):refuseLoop self "__setattr__" sP=pure ():=by
 with_unfolding_all rfl
theorem sQ.cls {K:PySem.W.Frag}(M:sQ K C f bm):∃cd,PySem.W.clsIn K C=some cd/\cd.mro = .ref C::bm/\cd.hasDict=true:=by
 obtain⟨nm,q',N,bs,sn,sub,ab,tY,dd,k0,k1,k2,k3,k5,lk⟩:=M.kT;refine⟨{name:=nm,bases:=bs,mro:=.ref C::bm,ns:=N,qualname:=q',hasDict:=true,slotNames:=sn,subclasses:=sub,abstract:=ab,collection:=tY,hasDel:=false},?_,rfl,rfl⟩
 unfold PySem.W.clsIn;rw[lk]
section
variable {prog:Program}{w:World}{A:Around}{E:Value->Shared->Prop}{s:Shared}{K:PySem.W.Frag}{x C f:Addr}{bm:List Value}{ox:Obj}{od:Option Obj}{name:Str}
theorem sQ.has {T:String}(M:sQ K C f bm)(hT:sP.contains (.type T)=true):PySem.W.mroIn K C (.type T)=some true:=by
 obtain⟨cd,hc,hm,_⟩:=M.cls;obtain⟨B,rfl⟩:=M.nb;unfold PySem.W.mroIn;rw[hc,zcn,hm,if_neg (by simp)]
 rw[zbH,zbH,hT,zcQ,zcQ]
theorem ye {v:Value}{b:Bool->Prop}{Q:Unit->Shared->Prop}(X:K.In s.heap)(I:PySem.W.InstAt s.heap x ox C od)(M:sQ K C f bm)(hn:PySem.W.findIn K (.ref C) name=some none)
  (h:∀on tk,wpAny (model prog w) A.in1 (Builtin.ObjectAttr.storeInOwnDict (.ref x) (.ref C) (.str name tk) name v on) (λfS s'=>match fS with|.done (.ret _)=>Q () s' | _=>False) E {s with toks:=s.toks+1}):
  wpAny (model prog w) A (setAttr (.ref x) name v) Q E s:=by
 refine zeV X I M.sa ?_
 have SF:=PySem.F.store_object;obtain⟨cd,hc,hm,_⟩:=M.cls;obtain⟨B,hB⟩:=M.nb;have L0:=I.type (M:=model prog w)
 refine codeAny_call_builtin SF.slot.plain SF.entry (@PySem.W.check_slot (model prog w) _ _ {s with toks:=s.toks+1} "object.__setattr__" "object" "__setattr__" (.ref x) [.str name s.toks,v] [] _ SF.kind SF.split
  (L0.andThen (PySem.W.looks_mroIn X (M.has (by decide +kernel)))) (SF.args (.ref x) (.str name s.toks) v) ?_)
 have Lm:PySem.W.Looks (model prog w) s.heap (mroOf (.ref C)) cd.mro:=(zcI X hc).andThen .now
 rw[PySem.W.osa_eq,refuse_eq];refine zaa (zaa (zbG (s:={s with toks:=s.toks+1}) L0 (zaa (zbG (s:={s with toks:=s.toks+1}) Lm ?_))))
 rw[hm,hB,refuseLoop_ref,refuseLoop_ref,EN];refine zac (zaa (zbG (s:={s with toks:=s.toks+1}) L0 (zaa (zbG (s:={s with toks:=s.toks+1}) (zdg X hn) ?_))))
 refine zaa (zac ?_)
 refine zaQ (h _ _) (λfS s' z=>?_) λ_ _ z=>z
 rcases fS with (_|_|_|_)|_<;>first|exact z|exact z.elim
end
section
variable {X:Cx}{ah:List (Addr×Obj)}{σ:St}{H:Hp}{s:Shared}{A:Around}{E:Value->Shared->Prop}{a C f d:Addr}{bm:List Value}{g:Str}{v y:V}{u:Value}{fs:List (Str×V)}
theorem Ml {od:Option Addr}(I:aJ X ah σ H s)(h:H a=some (EO a C od)):∃t,s.heap.get? a=some (k8 C od t):=by
 obtain⟨⟨t,e⟩,_,_⟩:=(show bZ X.prog X.w H s.heap a (EO a C od) from I.cA a _ h)
 exact⟨t,e⟩
theorem ag7 (I:aJ X ah σ H s)(h:H d=some (ED d fs)):∃mA,s.heap.Ns1 d mA/\(∀f,ji (fs.lookup f) (mA f))/\PySem.Within mA (fs.map (·.1)):=by
 obtain⟨q,_,_⟩:=(show bZ X.prog X.w H s.heap d (ED d fs) from I.cA d _ h)
 exact q
end
theorem Mm (h:a≠b):bu (bu (bu H a o) b u) a w=bu (bu (bu H a o) a w) b u:=by
 funext c
 unfold bu;by_cases h1:c=a
 ·subst h1;rw[if_pos rfl,if_neg h,if_pos rfl]
 ·rw[if_neg h1,if_neg h1,if_neg h1]
theorem Mn (I:aJ X ah σ H s)(M:sQ X.K C f bm)(ha:H a=some (EO a C none))(hn:PySem.W.findIn X.K (.ref C) g=some none)(ry:bG y u)
  (h:∀d s',H d=none->aJ X ah σ (bu (bu H d (ED d [(g,y)])) a (EO a C (some d))) s'->Q () s'):wpAny (model X.prog X.w) A (setAttr (.ref a) g u) Q E s:=by
 obtain⟨t,e⟩:=Ml I ha;obtain⟨cd,hc,_,xg⟩:=M.cls;refine ye (b:=λ_=>True) I.kO (aaz e) M hn λon tk=>?_
 have aaB:H s.heap.objs.size=none:=I.cA.fresh (zaf _)
 have e':s.heap.get? a=some ⟨.ref C,none,.fields #[.ref t,.none,.none,.none,.bool false,.none],#[]⟩:=e
 refine zaa (zac (zaa (zaa (zeo e' (zaa (zbG (s:={s with toks:=s.toks+1}) (zcI I.kO hc) ?_))))))
 rw[xg];refine zaa (wpAny_alloc ?_)
 have hal:a<s.heap.objs.size:=zal e
 have nad:a≠s.heap.objs.size:=zaq hal
 have g1:(s.heap.push ({ cls:=.type "dict",data:=.dict #[]}:Obj)).get? s.heap.objs.size=some { cls:=.type "dict",data:=.dict #[]}:=zao _ rfl
 have n1:(s.heap.push ({ cls:=.type "dict",data:=.dict #[]}:Obj)).Ns s.heap.objs.size (λ_=>none):=⟨_,#[],_,g1,rfl,(λe he=>absurd he (by simp)),λ_=>rfl⟩
 have n1':=Heap.Ns1.of_empty n1;have I1:aJ X ah σ (bu H s.heap.objs.size (ED s.heap.objs.size [])) { s with heap:=s.heap.push ({ cls:=.type "dict",data:=.dict #[]}:Obj),toks:=s.toks+1}:=
  I.jA (λb u e=>zab _ e) (zaf _) (Mh n1' (λ_=>True.intro) (λy hy=>absurd rfl hy))
 have e1:(s.heap.push ({ cls:=.type "dict",data:=.dict #[]}:Obj)).get? a=some ⟨.ref C,none,.fields #[.ref t,.none,.none,.none,.bool false,.none],#[]⟩:=zab _ e'
 refine zaa (wpAny_update e1 ?_)
 have e2:((s.heap.push ({ cls:=.type "dict",data:=.dict #[]}:Obj)).update a (λo=>{cls:=o.cls,dict:=some s.heap.objs.size,data:=o.data,slots:=o.slots})).get? a=some (k8 C (some s.heap.objs.size) t):=by
  rw[zaW _ e1 rfl];rfl
 have hH1:(bu H s.heap.objs.size (ED s.heap.objs.size [])) a=some (EO a C none):=by rw[av nad];exact ha
 have I2:=I1.jH (x:=a) (e:=a) (o:=EO a C (some s.heap.objs.size)) (t':=s.toks+1) (h':=(s.heap.push ({ cls:=.type "dict",data:=.dict #[]}:Obj)).update a (λo=>{cls:=o.cls,dict:=some s.heap.objs.size,data:=o.data,slots:=o.slots}))
  (by rw[hH1];exact True.intro) (.inl rfl) (λb z hb q=>(zaB _ _ (zbg hb)).trans q) ⟨_,e2⟩ (Mg e2)
 have n2:((s.heap.push ({ cls:=.type "dict",data:=.dict #[]}:Obj)).update a (λo=>{cls:=o.cls,dict:=some s.heap.objs.size,data:=o.data,slots:=o.slots})).Ns1 s.heap.objs.size (λ_=>none):=
  n1'.at λo z=>(zaB _ _ nad).trans z
 refine zac ?_
 refine zaa (zac (zaa ?_))
 refine wpAny_nsSet1 n2 λh' QV K1=>?_
 obtain⟨oD,esD,epD,hoD,hdD,hcD⟩:=QV.count (PySem.Within.cons g u (ns:=[]) (λy hy=>absurd rfl hy))
 refine zaa (zdM hoD (by rw[hdD];exact zdN (zai hcD (show 1<=sizeLine+1 by decide))) ?_)
 refine zac (h s.heap.objs.size _ aaB ?_)
 have hHd:(bu (bu H s.heap.objs.size (ED s.heap.objs.size [])) a (EO a C (some s.heap.objs.size))) s.heap.objs.size=some (ED s.heap.objs.size []):=by rw[av (zbg nad),au]
 have I3:=I2.jH (x:=s.heap.objs.size) (e:=s.heap.objs.size) (o:=ED s.heap.objs.size [(g,y)]) (t':=s.toks+1+1) (h':=h')
  (by rw[hHd];exact True.intro) (.inl rfl) (λb z hb q=>(K1.2 b hb).trans q) ⟨_,hoD⟩ (Mh QV (λf=>?_) (λf hf=>?_))
 ·rw[Mm (zbg nad),Gs] at I3
  exact I3
 ·show ji (List.lookup f [(g,y)]) (if f=g then some u else none)
  rw[zaV];by_cases q:f=g
  ·rw[if_pos q,show (f == g)=true from by simpa using q]
   exact ry
  ·rw[if_neg q,show (f == g)=false from by simpa using q]
   exact True.intro
 ·have hf:(if f=g then some u else none)≠none:=hf
  by_cases q:f=g
  ·rw[q];simp
  ·rw[if_neg q] at hf;exact absurd rfl hf
theorem Mp (I:aJ X ah σ H s)(M:sQ X.K C f bm)(ha:H a=some (EO a C (some d)))(hd:H d=some (ED d fs))(hl:fs.length<1000)(hn:PySem.W.findIn X.K (.ref C) g=some none)(ry:bG y u)
  (h:∀s',aJ X ah σ (bu H d (ED d (gE g y fs))) s'->Q () s'):wpAny (model X.prog X.w) A (setAttr (.ref a) g u) Q E s:=by
 obtain⟨t,e⟩:=Ml I ha;obtain⟨mA,ns,r,wi⟩:=ag7 I hd;obtain⟨oD,hoD,_⟩:=xT ns;obtain⟨cd,hc,_,xg⟩:=M.cls;refine ye (b:=λ_=>True) I.kO (aaA e hoD) M hn λon tk=>?_
 have e':s.heap.get? a=some ⟨.ref C,some d,.fields #[.ref t,.none,.none,.none,.bool false,.none],#[]⟩:=e
 refine zaa (zac (zaa (zaa (zeo e' (zaa (zbG (s:={s with toks:=s.toks+1}) (zcI I.kO hc) ?_))))))
 rw[xg];refine zac (a:=some d) (zaa (zac (zaa ?_)))
 refine wpAny_nsSet1 (s:={s with toks:=s.toks+1}) ns λh' QV K1=>?_
 obtain⟨oD',esD,epD,ag8,hdD,hcD⟩:=QV.count (PySem.Within.cons g u wi)
 have ao9:(1000:Nat)<=sizeLine:=by decide
 have hz:(fs.map (·.1)).length<1000:=by rw[zad];exact hl
 refine zaa (zdM ag8 (by rw[hdD];exact zdN (zai hcD (by rw[zar];omega))) ?_)
 refine zac (h _ ?_)
 refine I.jH (x:=d) (e:=d) (o:=ED d (gE g y fs)) (by rw[hd];exact True.intro) (.inl rfl) (λb z hb q=>(K1.2 b hb).trans q) ⟨_,ag8⟩ (Mh QV (λf=>?_) (λf hf=>?_))
 ·show ji ((gE g y fs).lookup f) (if f=g then some u else mA f)
  rw[mR];by_cases q:f=g
  ·rw[if_pos q,if_pos q];exact ry
  ·rw[if_neg q,if_neg q];exact r f
 ·by_cases q:f=g
  ·rw[q];exact (j8 g y fs).1
  ·refine (j8 g y fs).2 f (wi f λz=>hf ?_)
   show (if f=g then some u else mA f)=none
   rw[if_neg q];exact z
noncomputable def ag9 (K:PySem.W.Frag)(ta tv:TE)(g:Str):TS:=λD σ H=>tv σ H λy H1=>ta σ H1 λx H2=>∃a C f bm,x = .ref a/\H2 a=some (EO a C none)/\sQ K C f bm/\PySem.W.findIn K (.ref C) g=some none /\
 ∀d,H2 d=none->D.nx σ (bu (bu H2 d (ED d [(g,y)])) a (EO a C (some d)))
noncomputable def aha (K:PySem.W.Frag)(ta tv:TE)(g:Str):TS:=λD σ H=>tv σ H λy H1=>ta σ H1 λx H2=>∃a C f bm d fs,x = .ref a/\H2 a=some (EO a C (some d))/\H2 d=some (ED d fs)/\fs.length<1000/\sQ K C f bm/\PySem.W.findIn K (.ref C) g=some none /\
 D.nx σ (bu H2 d (ED d (gE g y fs)))
theorem R8 (ha:PE X o ta)(hv:PE X value tv)(hs:swapsWith value (some (.Attribute o g jD)) pos.line X.env=pure false:=by rfl):PS X (.Assign [.Attribute o g jD] value pos) (ag9 X.K ta tv g):=by
 intro ah s σ H D I h;refine zcs (cM (hv ah s σ H _ I h) λu s1 ⟨y,H1,I1,ry,q⟩=>cM (ha ah s1 σ H1 _ I1 q) λov s2 dP=>?_) hs
 obtain⟨x,H2,I2,rx,a,C,f,bm,ex,ea,M,n,q2⟩:=dP;subst ex;obtain rfl:ov=Value.ref a:=rx
 exact Mn I2 M ea n ry λd s3 hd I3=>⟨σ,_,I3,q2 d hd⟩
theorem R9 (ha:PE X o ta)(hv:PE X value tv)(hs:swapsWith value (some (.Attribute o g jD)) pos.line X.env=pure false:=by rfl):PS X (.Assign [.Attribute o g jD] value pos) (aha X.K ta tv g):=by
 intro ah s σ H D I h;refine zcs (cM (hv ah s σ H _ I h) λu s1 ⟨y,H1,I1,ry,q⟩=>cM (ha ah s1 σ H1 _ I1 q) λov s2 iy=>?_) hs
 obtain⟨x,H2,I2,rx,a,C,f,bm,d,fs,ex,ea,ed,hl,M,n,q2⟩:=iy;subst ex;obtain rfl:ov=Value.ref a:=rx
 exact Mp I2 M ea ed hl n ry λs3 I3=>⟨σ,_,I3,q2⟩
section
variable {K:PySem.W.Frag}{C f B:Addr}
end
theorem aJ.zY {fp:List Addr}(I:aJ X ah σ H s)(k:∀b o,b∉fp->s.heap.get? b=some o->h'.get? b=some o)
  (hf:∀b∈fp,qD X ah H b):aJ X ah σ H {s with heap:=h',toks:=t' }:=by
 refine I.sr (g':=s.gens) (d':=s.drawn) (ch:=fp) (λb hb=>?_) (λb o _ _ hc e _=>k b o hc e) (λb o _ _ hc e _=>⟨o.slots,k b o hc e⟩) (λ_ _ _ _ n=>n)
  (λb o hc e=>⟨o,k b o hc e⟩) (λ_ _ e=>e) (λ_ _ _ e=>e) (λb ps e=>⟨#[],by rw[e];simp⟩) (λm hm=>?_) (λb u e=>?_) I.i6
 ·obtain⟨f0,f1,f2,f3,f4,f5⟩:=hf b hb
  exact⟨f3,f1,f4,f5⟩
 ·obtain⟨o,es,ep,ho,r⟩:=hm
  exact⟨o,es,ep,k _ o (λz=>(hf _ z).2.1 rfl) ho,r⟩
 ·refine (I.cA b u e).sj (λc v hc q=>k c v (λz=>?_) q) (λ_ q=>q) λ_ _ q=>q
  have f0:=(hf c z).1
  rcases hc with z' | z'
  ·rw[z',e] at f0;cases f0
  ·rw[z'] at f0;cases f0
noncomputable def BD (K:PySem.W.Frag)(κ:Bool)(H:Hp)(a:Addr)(xs:List V):Prop:=match κ with|true=>nJ K H a xs|false=>jC K H a xs
noncomputable def mW (κ:Bool)(h:Heap)(it a:Addr)(i:Nat):Prop:=match κ with|true=>h.IsTupleIter it a i|false=>h.IsListIter it a i
noncomputable def pK (κ:Bool)(h:Heap)(a:Addr)(aI:Array Value):Prop:=match κ with|true=>h.IsTuple a aI|false=>h.IsList a aI
theorem mW.kT (st:mW κ h it a i):∃o,h.get? it=some o/\∀v,o.data ≠ .cell v:=by
 cases κ with
 |true=>obtain⟨o,e,c,d⟩:=st;exact⟨o,e,λv z=>by rw[d] at z;cases z⟩
 |false=>obtain⟨o,e,c,d⟩:=st;exact⟨o,e,λv z=>by rw[d] at z;cases z⟩
theorem mW.tM (st:mW κ h it a i)(k:∀o,h.get? it=some o->h'.get? it=some o):mW κ h' it a i:=by
 cases κ with
 |true=>obtain⟨o,e,r⟩:=st;exact⟨o,k o e,r⟩
 |false=>obtain⟨o,e,r⟩:=st;exact⟨o,k o e,r⟩
theorem pK.tM (st:pK κ h a aI)(k:∀o,h.get? a=some o->h'.get? a=some o):pK κ h' a aI:=by
 cases κ with
 |true=>obtain⟨o,e,r⟩:=st;exact⟨o,k o e,r⟩
 |false=>obtain⟨o,e,r⟩:=st;exact⟨o,k o e,r⟩
theorem ER (hj:s.heap.IsTupleIter j tp n)(hp:s.heap.IsTuple tp vs)(hv:vs[n]? = some v)
  (k:∀h',h'.IsTupleIter j tp (n+1)->Heap.SameBut j s.heap h'->Q v {s with heap:=h' }):wpAny (model prog w) A (Builtin.SmallTypes.nextOf (.ref j)) Q E s:=by
 obtain⟨oj,ej,cj,dj⟩:=id hj;obtain⟨op,ep,_,m,dp⟩:=hp;have hn:¬ ((Value.ref tp == Value.none)=true):=zah
 unfold Builtin.SmallTypes.nextOf;refine zaa (zaN (name:=Str.ofString "__next__") hj.typeIs zch (zbj zch hj.typeIs zdz ?_ (zds _)))
 show wpAny _ _ (field (.ref j) 0 >>= _) _ _ s
 refine zaa (zax ej dj (x:=.ref tp) rfl ?_)
 show wpAny _ _ (if (Value.ref tp == Value.none)=true then _ else _) _ _ s
 rw[if_neg hn];show wpAny _ _ (field (.ref j) 1 >>= _) _ _ s
 refine zaa (zax ej dj (x:=.int n 0) rfl ?_)
 show wpAny _ _ (seqItems? (.ref tp) >>= _) _ _ s
 refine zaa (zbm ep dp ?_)
 simp only[zbn,hv];refine zaa (zbV ej dj (by simp) (zac ⟨v,rfl,zac (k _ ⟨_,zaW _ ej (zcD (zbs dj _)),(Obj.cls_mapFields ..).trans cj,?_⟩ (zcq ..))⟩))
 rw[zbs dj];simp[rawInt]
theorem Jm (hh:A.handled=none)(hj:s.heap.IsTupleIter j tp n)(hp:s.heap.IsTuple tp vs)(hv:vs[n]? = none)
  (k:∀h' x,Heap.ExtBut j s.heap h'->(∃o,h'.get? x=some o/\o.cls = .type "StopIteration")->E (.ref x) {s with heap:=h' }):wpAny (model prog w) A (Builtin.SmallTypes.nextOf (.ref j)) Q E s:=by
 obtain⟨oj,ej,cj,dj⟩:=id hj;obtain⟨op,ep,_,m,dp⟩:=hp;have hn:¬ ((Value.ref tp == Value.none)=true):=zah
 unfold Builtin.SmallTypes.nextOf;refine zaa (zaN (name:=Str.ofString "__next__") hj.typeIs zch (zbj zch hj.typeIs zdz ?_ (zds _)))
 show wpAny _ _ (field (.ref j) 0 >>= _) _ _ s
 refine zaa (zax ej dj (x:=.ref tp) rfl ?_)
 show wpAny _ _ (if (Value.ref tp == Value.none)=true then _ else _) _ _ s
 rw[if_neg hn];show wpAny _ _ (field (.ref j) 1 >>= _) _ _ s
 refine zaa (zax ej dj (x:=.int n 0) rfl ?_)
 show wpAny _ _ (seqItems? (.ref tp) >>= _) _ _ s
 refine zaa (zbm ep dp ?_)
 simp only[zbn,hv];refine zaa (zcU (zaa (zbV ej dj (by simp) ?_)))
 show wpAny _ _ (newExc (.type "StopIteration") [] >>= _) _ _ _
 refine zaa ?_
 simp only[newExc,newTuple];refine zaa (zaO ?_ (by size_fits))
 refine zaa (m:=firstArgMember _ _) (wpAny_of_eq (a:=Value.none) (by first|rfl | (simp only[firstArgMember];rfl)) (zaO ?_ (by size_fits)))
 simp only[raiseNew];refine zaa (wpAny_handled ?_)
 first|rw[show A.in1.handled=none from hh]|rw[hh]
 exact zaa (zac (wpAny_throw (k _ _ (((zcq ..).extBut.push _).push _) ⟨_,zao _ rfl,rfl⟩)))
theorem kh (hh:A.handled=none)(κ:Bool)(it a:Addr)(sA:a≠it)(aI:Array Value):
    Draws P w A it [it,a] aI.size (λi v=>aI[i]? = some v) (λi h=>mW κ h it a i/\pK κ h a aI):=by
  cases κ with
  |false=>exact Draws.list hh it a sA aI
  |true =>
    exact { live:=λi h st=>let ⟨o,e,_⟩:=st.1;⟨o,e⟩
            frame:=λi h h' st k=>⟨st.1.tM λo e=>k it (by simp) o e,st.2.tM λo e=>k a (by simp) o e⟩
            item:=λi s Q E hi st k=>ER st.1 st.2 (v:=aI[i]) (by simp[hi]) λh' IU sb=>k _ h' s.toks (by simp[hi]) ⟨IU,Heap.IsTuple.extBut st.2 sb.extBut sA⟩ sb
            done:=λs Q E st k=>Jm hh st.1 st.2 (by simp) k}
theorem aJ.src (I:aJ X ah σ H s)(h:BD X.K κ H a xs):∃aI:List Value,bA xs aI/\pK κ s.heap a aI.toArray/\xs.length<=sizeLine:=by
 cases κ with
 |true =>
  obtain⟨aI,r,p,z⟩:=I.fj h;exact⟨aI,r,p,z⟩
 |false =>
  obtain⟨aI,r,p,z⟩:=I.list h;exact⟨aI,r,p.isList,z⟩
theorem aJ.GS (I:aJ X ah σ H s)(h:BD X.K κ H a xs)(h':BD X.K κ H a ys):xs=ys:=by
 cases κ with
 |true=>exact I.xR h h'
 |false=>exact I.Bj h h'
theorem aJ.aaD {fp:List Addr}(I:aJ X ah σ H s)(hf:∀b∈fp,qD X ah H b)(rx:bG x u)(ry:bG y v)
  (lt:∀b∈fp,b<s.heap.objs.size) (hT:h'.get? s.heap.objs.size=some { cls:=.type "tuple",data:=.seq #[u,v]}) (k:∀b o,b∉fp->s.heap.get? b=some o->h'.get? b=some o):
  aJ X ah σ (bu H s.heap.objs.size (.fP [x,y])) {s with heap:=h',toks:=t' }/\∀b∈fp,bu H s.heap.objs.size (.fP [x,y]) b=none:=by
 have ne:∀b∈fp,b≠s.heap.objs.size:=λb hb=>zaq (lt b hb)
 have fr:∀b∈fp,bu H s.heap.objs.size (.fP [x,y]) b=none:=λb hb=>by rw[av (ne b hb)];exact (hf b hb).1
 have I1:=I.jA (h':=s.heap.push { cls:=.type "tuple",data:=.seq #[u,v]}) (t':=t') (a:=s.heap.objs.size) (o:=.fP [x,y]) (λb o e=>zab _ e) (zaf _)
  (show bZ X.prog X.w _ _ _ (.fP [x,y]) from ⟨(by show 2<=sizeLine;decide),[u,v],.cons rx (.cons ry .nil),IsTup.new _ _⟩)
 refine⟨aJ.zY (s:={ s with heap:=s.heap.push { cls:=.type "tuple",data:=.seq #[u,v]},toks:=t' }) (t':=t') (fp:=fp) I1 (λb o hb e=>?_) λb hb=>⟨fr b hb,(hf b hb).2⟩,fr⟩
 have e:(s.heap.push { cls:=.type "tuple",data:=.seq #[u,v]}).get? b=some o:=e
 by_cases z:b=s.heap.objs.size
 ·subst z
  rw[zao _ rfl] at e;cases e;exact hT
 ·rw[Heap.get?_push_ne _ _ _ z] at e
  exact k b o hb e
noncomputable def amr (tv:TE):TE:=λσ H Q=>tv σ H λv H1=>(∃x,v = .str x/\x.length<=sizeLine/\Q (.str x) H1)\/(∃i:Int,v = .int i/\i.natAbs.log2<1920/\Q (.str (toString i)) H1)
theorem aaE (h:PE X value tv):PE X (.FormattedValue value (-1) none pos) (amr tv):=by
 intro ah s σ H Q I hq;refine FormattedValue_plain (cM (h ah s σ H _ I hq) λv s1 b_=>?_)
 obtain⟨y,H1,I1,r,q⟩:=b_;rcases q with⟨x,rfl,hz,q⟩|⟨i,rfl,hd,q⟩
 ·obtain⟨t,rfl⟩:=r
  exact formatField_str (λt' tk=>⟨.str x,H1,I1.o8 tk,⟨_,rfl⟩,q⟩) hz
 ·obtain⟨t,rfl⟩:=r
  exact formatField_int_small hd ⟨.str (toString i),H1,I1.o8 _,⟨_,rfl⟩,q⟩
noncomputable abbrev TJ:=Str->TE
noncomputable def PJ (X:Cx)(es:List Expr)(t:TJ):Prop:=
 ∀(bU:Str) (ah:List (Addr×Obj)) (s:Shared) (σ:St) (H:Hp) (Q:VK),aJ X ah σ H s->t bU σ H Q->wpAny (model X.prog X.w) X.A (joinParts bU (evalEach es X.env)) (EP X ah σ Q) X.xe s
noncomputable def ahb:TJ:=λbU _ H Q=>bU.length<=sizeLine/\Q (.str bU) H
noncomputable def aaF (te:TE)(tr:TJ):TJ:=λbU σ H Q=>te σ H λv H1=>∃y,v = .str y/\(bU++y).length<=sizeLine/\tr (bU++y) σ H1 Q
theorem aaG:PJ X [] ahb:=λbU ah s σ H Q I h=>joinParts_nil ⟨.str bU,H,I.o8 _,⟨_,rfl⟩,h.2⟩ h.1
theorem R_ (he:PE X e te)(hr:PJ X es tr):PJ X (e::es) (aaF te tr):=by
 intro bU ah s σ H Q I h;show wpAny _ _ (joinParts bU (eval e X.env::evalEach es X.env)) _ _ _
 refine joinParts_cons (cM (he ah s σ H _ I h) λv s1 cX=>?_)
 obtain⟨z,H1,I1,r,y,ez,hz,q⟩:=cX;subst ez;obtain⟨t,rfl⟩:=r;exact⟨hz,hr _ ah s1 σ H1 Q I1 q⟩
theorem Sa (h:PJ X (e1::e2::es) t):PE X (.JoinedStr (e1::e2::es) pos) (t Str.empty):=λah s σ H Q I hq=>JoinedStr_many (h Str.empty ah s σ H Q I hq)
structure tZ (Z TI TO i1 i2:Addr) (A_ DQ:List Addr):Prop where
 a1:TI≠Z
 a2:TO≠Z
 a3:TI≠TO
 a4:TI≠i1
 a5:TI≠i2
 a6:TO≠i1
 a7:TO≠i2
 a8:i1≠i2
 a9:i1≠Z
 Jo:i2≠Z
 b1:Z∉A_
 b2:TO∉A_
 b3:i2∉A_
 c1:Z∉DQ
 c2:TO∉DQ
 c3:i1∉DQ
section
variable {prog:Program}{w:World}{A:Around}{E:Value->Shared->Prop}{s:Shared}{Z TI TO i1 i2:Addr}{A_ DQ:List Addr}{n1 n2 k:Nat}{Y1 Y2:Nat->Value->Prop}{S1 S2:Nat->Heap->Prop}{p q:Value}
theorem Jp {Q:Value->Shared->Prop}(D1:Draws prog w A i1 A_ n1 Y1 S1)(D2:Draws prog w A i2 DQ n2 Y2 S2)(N:tZ Z TI TO i1 i2 A_ DQ)(zZ:IsZip s.heap Z TI TO .none)(zI:IsPair s.heap TI (.ref i1) (.ref i2))(zO:IsPair s.heap TO p q)
  (s1:S1 k s.heap) (s2:S2 k s.heap) (l1:k<n1) (l2:k<n2)
  (kk:∀x y h' tk,Y1 k x->Y2 k y->IsZip h' Z TI TO (rawInt s.heap.objs.size)->IsPair h' TO x y->S1 (k+1) h'->S2 (k+1) h'->IsPair h' s.heap.objs.size x y->(∀c o,c≠Z->c≠TO->c≠i1->c≠i2->s.heap.get? c=some o->h'.get? c=some o)->Q (.ref s.heap.objs.size) {s with heap:=h',toks:=tk}):
  wpAny (model prog w) A (Builtin.«zip.__next__» ⟨[.ref Z],[]⟩) (λfS s'=>∃v,fS = .done (.ret v)/\Q v s') E s:=by
 obtain⟨hp,g,d,tk0,os⟩:=s;show wpAny _ _ (field (.ref Z) 2 >>= _) _ _ _
 refine zaa (zax zZ rfl (x:=.bool false) rfl ?_)
 show wpAny _ _ (field (.ref Z) 3 >>= _) _ _ _
 refine zaa (zax zZ rfl (x:=.ref TI) rfl (zaa (zbm zI rfl ?_)))
 show wpAny _ _ (Builtin.SmallTypes.ownedTupleIsFree (.ref Z) >>= _) _ _ _
 refine zaa ?_
 unfold Builtin.SmallTypes.ownedTupleIsFree;refine zaa (zax zZ rfl (x:=.none) rfl (zac ?_))
 simp only[if_true];refine zaa (zcU (zaa (zax zZ rfl (x:=.ref TO) rfl ?_)))
 refine zaa (zbI zZ (by simp) λg1 Mq b1=>?_)
 replace Mq:IsZip g1 Z TI TO .ellipsis:=Mq
 replace b1:Heap.SameBut Z hp g1:=b1
 refine zaa ?_
 simp only[List.zipIdx_cons,List.zipIdx_nil,List.forIn_cons,List.forIn_nil];-- xN first
 refine zaa (zaa (zdb ?_))
 show wpAny _ _ (Builtin.SmallTypes.nextOf (.ref i1) >>= _) _ _ _
 refine zaa (D1.item k _ _ _ l1 (D1.frame _ _ _ s1 λb hb o e=>b1.extBut b o (λz=>N.b1 (z ▸ hb)) e) λx g2 t2 y1 s12 b2=>zac ?_)
 replace b2:Heap.SameBut i1 g1 g2:=b2
 have zO2:IsPair g2 TO p q:=b2.extBut _ _ N.a6 (b1.extBut _ _ N.a2 zO)
 refine zaa (zbm zO2 rfl (zaa (zdn zO2 λg3 zO3 b3=>?_)))
 replace zO3:IsPair g3 TO x q:=zO3
 replace b3:Heap.SameBut TO g2 g3:=b3
 refine zaa (zej (zac ?_))
 -- xN aaH
 refine zaa (zaa (zdb ?_))
 show wpAny _ _ (Builtin.SmallTypes.nextOf (.ref i2) >>= _) _ _ _
 refine zaa (D2.item k _ _ _ l2 (D2.frame _ _ _ s2 λb hb o e=>b3.extBut b o (λz=>N.c2 (z ▸ hb)) (b2.extBut b o (λz=>N.c3 (z ▸ hb)) (b1.extBut b o (λz=>N.c1 (z ▸ hb)) e))) λy g4 t4 y2 s24 b4=>zac ?_)
 replace b4:Heap.SameBut i2 g3 g4:=b4
 have zO4:IsPair g4 TO x q:=b4.extBut _ _ N.a7 zO3
 refine zaa (zbm zO4 rfl (zaa (zdn zO4 λg5 zO5 b5=>?_)))
 replace zO5:IsPair g5 TO x y:=zO5
 replace b5:Heap.SameBut TO g4 g5:=b5
 refine zaa (zej (zac (zac ?_)))
 -- xN aq4
 refine zaa (zbm zO5 rfl (zaa (wpAny_newTuple ?_)))
 have z5:g5.objs.size=hp.objs.size:=by rw[b5.1,b4.1,b3.1,b2.1,b1.1]
 have zZ5:IsZip g5 Z TI TO .ellipsis:=b5.extBut _ _ N.a2.symm (b4.extBut _ _ N.Jo.symm (b3.extBut _ _ N.a2.symm (b2.extBut _ _ N.a9.symm Mq)))
 have s15:S1 (k+1) g5:=D1.frame _ _ _ s12 λb hb o e=>b5.extBut b o (λz=>N.b2 (z ▸ hb)) (b4.extBut b o (λz=>N.b3 (z ▸ hb)) (b3.extBut b o (λz=>N.b2 (z ▸ hb)) e))
 have s25:S2 (k+1) g5:=D2.frame _ _ _ s24 λb hb o e=>b5.extBut b o (λz=>N.c2 (z ▸ hb)) e
 have ahd:∀c o,c≠Z->c≠TO->c≠i1->c≠i2->hp.get? c=some o->g5.get? c=some o:=λc o n1 n2 n3 n4 e=>b5.extBut _ _ n2 (b4.extBut _ _ n4 (b3.extBut _ _ n2 (b2.extBut _ _ n3 (b1.extBut _ _ n1 e))))
 have Zlt:Z<g5.objs.size:=zal zZ5
 show wpAny _ _ (Builtin.SmallTypes.ownedTupleHandOut (.ref Z) (.ref g5.objs.size) >>= _) _ _ _
 refine zaa ?_
 unfold Builtin.SmallTypes.ownedTupleHandOut;have zZ6:IsZip (g5.push { cls:=.type "tuple",data:=.seq #[x,y]}) Z TI TO .ellipsis:=zab _ zZ5
 refine zaa (zbI zZ6 (by simp) λg7 zZ7 b7=>?_)
 replace zZ7:IsZip g7 Z TI TO (rawInt g5.objs.size):=zZ7
 replace b7:Heap.SameBut Z (g5.push { cls:=.type "tuple",data:=.seq #[x,y]}) g7:=b7
 refine zbI zZ7 (by simp) λg8 zZ8 b8=>?_
 replace zZ8:IsZip g8 Z TI TO (rawInt g5.objs.size):=zZ8
 replace b8:Heap.SameBut Z g7 g8:=b8
 have up:∀c o,c≠Z->g5.get? c=some o->g8.get? c=some o:=λc o n e=>b8.extBut _ _ n (b7.extBut _ _ n (zab _ e))
 have zT:IsPair g8 g5.objs.size x y:=b8.extBut _ _ (zca Zlt) (b7.extBut _ _ (zca Zlt) (zao _ rfl))
 rw[z5] at zZ8 zT;refine zac ⟨_,rfl,?_⟩
 show Q (.ref g5.objs.size) _
 rw[z5];exact kk x y g8 _ y1 y2 zZ8 (up _ _ N.a2 zO5) (D1.frame _ _ _ s15 λb hb o e=>up b o (λz=>N.b1 (z ▸ hb)) e) (D2.frame _ _ _ s25 λb hb o e=>up b o (λz=>N.c1 (z ▸ hb)) e) zT λc o m1 m2 m3 m4 e=>up c o m1 (ahd c o m1 m2 m3 m4 e)
theorem Mr {Q:Fin->Shared->Prop}(D1:Draws prog w A i1 A_ n1 Y1 S1)(N:tZ Z TI TO i1 i2 A_ DQ)(zZ:IsZip s.heap Z TI TO .none)(zI:IsPair s.heap TI (.ref i1) (.ref i2))(s1:S1 n1 s.heap)
  (kk:∀h' x,(∀c o,c≠Z->c≠i1->s.heap.get? c=some o->h'.get? c=some o)->(∃o,h'.get? x=some o/\o.cls = .type "StopIteration")->E (.ref x) {s with heap:=h' }):
  wpAny (model prog w) A (Builtin.«zip.__next__» ⟨[.ref Z],[]⟩) Q E s:=by
 show wpAny _ _ (field (.ref Z) 2 >>= _) _ _ _
 refine zaa (zax zZ rfl (x:=.bool false) rfl ?_)
 show wpAny _ _ (field (.ref Z) 3 >>= _) _ _ _
 refine zaa (zax zZ rfl (x:=.ref TI) rfl (zaa (zbm zI rfl ?_)))
 show wpAny _ _ (Builtin.SmallTypes.ownedTupleIsFree (.ref Z) >>= _) _ _ _
 refine zaa ?_
 unfold Builtin.SmallTypes.ownedTupleIsFree;refine zaa (zax zZ rfl (x:=.none) rfl (zac ?_))
 simp only[if_true];refine zaa (zcU (zaa (zax zZ rfl (x:=.ref TO) rfl ?_)))
 refine zaa (zbI zZ (by simp) λg1 Mq b1=>?_)
 replace Mq:IsZip g1 Z TI TO .ellipsis:=Mq
 replace b1:Heap.SameBut Z s.heap g1:=b1
 refine zaa ?_
 simp only[List.zipIdx_cons,List.zipIdx_nil,List.forIn_cons,List.forIn_nil];refine zaa (zaa (zdb ?_))
 show wpAny _ _ (Builtin.SmallTypes.nextOf (.ref i1) >>= _) _ _ _
 refine zaa (D1.done _ _ _ (D1.frame _ _ _ s1 λb hb o e=>b1.extBut b o (λz=>N.b1 (z ▸ hb)) e) λg2 x b2 hx=>?_)
 replace b2:Heap.ExtBut i1 g1 g2:=b2
 obtain⟨ox,ex,cx⟩:=hx;have zZ2:IsZip g2 Z TI TO .ellipsis:=b2 _ _ N.a9.symm Mq
 have xZ:x≠Z:=λz=>by
  subst z;rw[zZ2] at ex;cases ex;simp at cx
 exact zbI zZ2 (by simp) λg3 _ b3=>kk g3 x (λc o m1 m2 e=>b3.extBut _ _ m1 (b2 _ _ m2 (b1.extBut _ _ m1 e))) ⟨ox,b3.extBut _ _ xZ ex,cx⟩
theorem ES {Q:Option Value->Shared->Prop}(D1:Draws prog w A.in1 i1 A_ n1 Y1 S1)(D2:Draws prog w A.in1 i2 DQ n2 Y2 S2)(N:tZ Z TI TO i1 i2 A_ DQ)(zZ:IsZip s.heap Z TI TO .none)(zI:IsPair s.heap TI (.ref i1) (.ref i2))(zO:IsPair s.heap TO p q)
  (s1:S1 k s.heap) (s2:S2 k s.heap) (l1:k<n1) (l2:k<n2)
  (kk:∀x y h' tk,Y1 k x->Y2 k y->IsZip h' Z TI TO (rawInt s.heap.objs.size)->IsPair h' TO x y->S1 (k+1) h'->S2 (k+1) h'->IsPair h' s.heap.objs.size x y->(∀c o,c≠Z->c≠TO->c≠i1->c≠i2->s.heap.get? c=some o->h'.get? c=some o)->Q (some (.ref s.heap.objs.size)) {s with heap:=h',toks:=tk}):
  wpAny (model prog w) A (pyNext (.ref Z)) Q E s:=by
 have zT:s.TypeIs (.ref Z) "zip" := ⟨_,zZ,rfl⟩
 unfold pyNext;exact zaa (zdc (zaN (name:=Str.ofString "__next__") zT zcx (zbj zcx zT zdR
  (Jp D1 D2 N zZ zI zO s1 s2 l1 l2 λx y h' tk r1 r2 r3 r4 r5 r6 r7 r8=>zac (kk x y h' tk r1 r2 r3 r4 r5 r6 r7 r8)) (zdG _))))
theorem Jq {Q:Option Value->Shared->Prop}(D1:Draws prog w A.in1 i1 A_ n1 Y1 S1)(N:tZ Z TI TO i1 i2 A_ DQ)(zZ:IsZip s.heap Z TI TO .none)(zI:IsPair s.heap TI (.ref i1) (.ref i2))(s1:S1 n1 s.heap)
  (kk:∀h',(∀c o,c≠Z->c≠i1->s.heap.get? c=some o->h'.get? c=some o)->Q none {s with heap:=h' }):wpAny (model prog w) A (pyNext (.ref Z)) Q E s:=by
 have zT:s.TypeIs (.ref Z) "zip" := ⟨_,zZ,rfl⟩
 unfold pyNext;refine zaa (zdc (zaN (name:=Str.ofString "__next__") zT zcx (zbj zcx zT zdR (Mr D1 N zZ zI s1 λh' x up hx=>?_) (zdG _))))
 obtain⟨ox,ex,cx⟩:=hx;exact zaa (zdS (T:= "StopIteration") (b:=true) ⟨ox,ex,cx⟩ zeq (zac (kk _ up)))
end
noncomputable def Itz (K:PySem.W.Frag)(t6 yf:Bool)(a b:Addr):It:=
  ⟨λi H=>∃xs ys x y,BD K t6 H a xs/\BD K yf H b ys/\xs[i]? = some x/\ys[i]? = some y,
   λi H v H'=>∃T x y,H T=none/\v = .ref T/\H'=bu H T (.fP [x,y])/\(∀xs,BD K t6 H a xs->xs[i]? = some x)/\∀ys,BD K yf H b ys->ys[i]? = some y,
   λi H=>∃xs,BD K t6 H a xs/\xs.length=i⟩
theorem K7 {x y:Nat}(h:x<y): @Ne Addr x y:=zaq h
theorem DR {x y:Nat}(h:y<x): @Ne Addr x y:=zca h
theorem Jr {z x y:Addr}(h1:z≠x)(h2:z≠y):z∉[x,y]:=by simp[h1,h2]
theorem t7 {a b n:Nat}(ha:a<n)(hb:b<n):tZ (n+4:Nat) (n+2:Nat) (n+3:Nat) n (n+1:Nat) [n,a] [(n+1:Nat),b]:=
  ⟨K7 (by omega),K7 (by omega),K7 (by omega),DR (by omega),DR (by omega),DR (by omega),DR (by omega),K7 (by omega),K7 (by omega),K7 (by omega),
   Jr (DR (by omega)) (DR (by omega)),Jr (DR (by omega)) (DR (by omega)),Jr (DR (by omega)) (DR (by omega)),Jr (DR (by omega)) (DR (by omega)),Jr (DR (by omega)) (DR (by omega)),Jr (K7 (by omega)) (DR (by omega))⟩
theorem ki {P:Program}{w:World}{K:PySem.W.Frag}{elts:List Expr}{x1}{pos:Pos}(t6 yf:Bool)(a b n:Nat)(ha:a<n)(hb:b<n):
    Ed P w K (.Tuple elts x1 pos) (Itz K t6 yf a b) [(n+4:Nat),(n+2:Nat),(n+3:Nat),n,(n+1:Nat)] (n+4:Nat)
      (λi h=>IsZip h (n+4:Nat) (n+2:Nat) (n+3:Nat) .none/\IsPair h (n+2:Nat) (.ref n) (.ref (n+1:Nat))/\(∃p q,IsPair h (n+3:Nat) p q)/\mW t6 h n a i/\mW yf h (n+1:Nat) b i) where
  mem:=by simp
  kT:=λi h t c hc=>by
    obtain⟨zZ,zI,⟨p,q,zO⟩,t1,t2⟩:=t
    simp only[zap,zaC,or_false] at hc;rcases hc with rfl|rfl|rfl|rfl|rfl
    · exact⟨_,zZ,λv z=>by cases z⟩
    · exact⟨_,zI,λv z=>by cases z⟩
    · exact⟨_,zO,λv z=>by cases z⟩
    · exact t1.kT
    · exact t2.kT
  keep:=λi h h' t k=>by
    obtain⟨zZ,zI,⟨p,q,zO⟩,t1,t2⟩:=t
    exact⟨k _ (.head _) _ zZ,k _ (.tail _ (.head _)) _ zI,⟨p,q,k _ (.tail _ (.tail _ (.head _))) _ zO⟩,t1.tM λo e=>k _ (.tail _ (.tail _ (.tail _ (.head _)))) o e,t2.tM λo e=>k _ (.tail _ (.tail _ (.tail _ (.tail _ (.head _))))) o e⟩
  item:=by
    intro X hP hw hK hc i ah s σ H E I hf t hg;subst hP hw hK;obtain⟨zZ,zI,⟨p,q,zO⟩,t1,t2⟩:=t
    obtain⟨xs,ys,x,y,hxs,hys,hx,hy⟩:=hg;obtain⟨aI,rv,so,_⟩:=I.src hxs;obtain⟨Sb,zB,so',_⟩:=I.src hys;obtain⟨u,hu,ru⟩:=rv.get hx;obtain⟨v,hv,rv'⟩:=zB.get hy;have hh:X.A.in1.handled=none:=I.ok.hd hc
    have D1:=kh (P:=X.prog) (w:=X.w) (A:=X.A.in1) hh t6 n a (K7 ha) aI.toArray
    have D2:=kh (P:=X.prog) (w:=X.w) (A:=X.A.in1) hh yf (n+1:Nat) b (K7 (by omega)) Sb.toArray
    have N:=t7 ha hb;have l1:i<aI.toArray.size:=by simpa using (zae.mp hu).1
    have l2:i<Sb.toArray.size:=by simpa using (zae.mp hv).1
    refine ES D1 D2 N zZ zI zO ⟨t1,so⟩ ⟨t2,so'⟩ l1 l2 λu' v' h' tk e1 e2 zZ' zO' t1' t2' zT up=>⟨_,rfl,?_⟩
    have eu:u'=u:=by
      have hu':aI.toArray[i]? = some u:=by simpa using hu
      have e1':aI.toArray[i]? = some u':=e1
      rw[hu'] at e1';exact (zav e1').symm
    have ev:v'=v:=by
      have hv':Sb.toArray[i]? = some v:=by simpa using hv
      have e2':Sb.toArray[i]? = some v':=e2
      rw[hv'] at e2';exact (zav e2').symm
    subst eu ev;refine wpAny_letOwnedTupleGo_zip (s:={s with heap:=h',toks:=tk}) zZ' λh2 zZ2 sb=>?_
    have sb:Heap.SameBut (n+4:Nat) h' h2:=sb
    have Zlt:(n+4:Nat)<s.heap.objs.size:=zal zZ
    obtain⟨I2,fr⟩:=I.aaD (h':=h2) (t':=tk) (fp:=[(n+4:Nat),(n+2:Nat),(n+3:Nat),n,(n+1:Nat)]) (x:=x) (y:=y) (u:=u') (v:=v') hf ru rv'
      (λc hc=>by
        simp only[zap,zaC,or_false] at hc;rcases hc with hc|hc|hc|hc|hc<;>rw[hc]
        · exact Zlt
        · exact (by omega:n+2<s.heap.objs.size)
        · exact (by omega:n+3<s.heap.objs.size)
        · exact (by omega:n<s.heap.objs.size)
        · exact (by omega:n+1<s.heap.objs.size))
      ((sb.2 _ (DR Zlt)).trans zT) (λc o hc e=>by
        simp only[zap,zaC,or_false,not_or] at hc;exact (sb.2 c hc.1).trans (up c o hc.1 hc.2.2.1 hc.2.2.2.1 hc.2.2.2.2 e))
    refine⟨.ref s.heap.objs.size,_,I2,rfl,⟨s.heap.objs.size,x,y,I.cA.fresh (zaf _),rfl,rfl,λzs hz=>by rw[I.GS hz hxs];exact hx,λzs hz=>by rw[I.GS hz hys];exact hy⟩,⟨zZ2,?_,⟨u',v',?_⟩,?_,?_⟩,fr⟩
    · exact (sb.2 _ N.a1).trans (up _ _ N.a1 N.a3 N.a4 N.a5 zI)
    · exact (sb.2 _ N.a2).trans zO'
    · exact t1'.1.tM λo e=>(sb.2 _ N.a9).trans e
    · exact t2'.1.tM λo e=>(sb.2 _ N.Jo).trans e
  done:=by
    intro X hP hw hK hc i ah s σ H E I hf t hg;subst hP hw hK;obtain⟨zZ,zI,_,t1,t2⟩:=t;obtain⟨xs,hxs,hx⟩:=hg;obtain⟨aI,rv,so,_⟩:=I.src hxs;have hh:X.A.in1.handled=none:=I.ok.hd hc
    have D1:=kh (P:=X.prog) (w:=X.w) (A:=X.A.in1) hh t6 n a (K7 ha) aI.toArray
    have N:=t7 ha hb;have hn:aI.toArray.size=i:=by
      have:=rv.length
      simp
      omega
    exact Jq D1 N zZ zI (by rw[hn];exact⟨t1,so⟩) λh' up=>⟨rfl,I.zY (fp:=[(n+4:Nat),(n+2:Nat),(n+3:Nat),n,(n+1:Nat)]) (t':=s.toks) (λc o hc e=>up c o (λz=>hc (by simp[z])) (λz=>hc (by simp[z])) e) hf⟩
  self:=λ_ _ _ _ _ t h=>wpAny_pyIter_zip t.1 h
noncomputable abbrev zq1 (h:Heap)(o1:Obj):Heap:=h.push o1
noncomputable abbrev zq2 (h:Heap)(o1 o2:Obj):Heap:=(zq1 h o1).push o2
noncomputable abbrev zq3 (h:Heap)(o1 o2:Obj):Heap:=(zq2 h o1 o2).push { cls:=.type "tuple",data:=.seq #[.ref h.objs.size,.ref (zq1 h o1).objs.size]}
noncomputable abbrev VT (h:Heap)(o1 o2:Obj):Heap:=(zq3 h o1 o2).push { cls:=.type "tuple",data:=.seq #[.none,.none]}
noncomputable abbrev DS (h:Heap)(o1 o2:Obj):Heap:=(VT h o1 o2).push { cls:=.type "zip",data:=.fields #[.none,.bool false,.bool false,.ref (zq2 h o1 o2).objs.size,.ref (zq3 h o1 o2).objs.size]}
theorem Ms (h:Heap)(o1 o2:Obj)(f1:o1.isFreed=false)(f2:o2.isFreed=false):(VT h o1 o2).objs.size=h.objs.size+4/\IsZip (DS h o1 o2) (h.objs.size+4) (h.objs.size+2) (h.objs.size+3) .none /\
  IsPair (DS h o1 o2) (h.objs.size+2) (.ref h.objs.size) (.ref (h.objs.size+1))/\IsPair (DS h o1 o2) (h.objs.size+3) .none .none/\(DS h o1 o2).get? h.objs.size=some o1/\(DS h o1 o2).get? (h.objs.size+1)=some o2 /\
  ∀c o,h.get? c=some o->(DS h o1 o2).get? c=some o:=by
 have s1:(zq1 h o1).objs.size=h.objs.size+1:=zbU ..
 have s2:(zq2 h o1 o2).objs.size=h.objs.size+2:=by rw[zbU,s1]
 have s3:(zq3 h o1 o2).objs.size=h.objs.size+3:=by rw[zbU,s2]
 have s4:(VT h o1 o2).objs.size=h.objs.size+4:=by rw[zbU,s3]
 have e5:(DS h o1 o2).get? (VT h o1 o2).objs.size=some _:=zao _ rfl
 have e4:(DS h o1 o2).get? (zq3 h o1 o2).objs.size=some _:=zab _ (zao _ rfl)
 have e3:(DS h o1 o2).get? (zq2 h o1 o2).objs.size=some _:=zab _ (zab _ (zao _ rfl))
 have e2:(DS h o1 o2).get? (zq1 h o1).objs.size=some o2:=zab _ (zab _ (zab _ (zao _ f2)))
 have e1:(DS h o1 o2).get? h.objs.size=some o1:=zab _ (zab _ (zab _ (zab _ (zao _ f1))))
 rw[s2,s3,s4] at e5;rw[s1,s2] at e3;rw[s3] at e4;rw[s1] at e2;exact⟨s4,e5,e3,e4,e1,e2,λc o e=>zab _ (zab _ (zab _ (zab _ (zab _ e))))⟩
noncomputable def gX (κ:Bool)(a:Addr):Obj:=match κ with|true=>{ cls:=.type "tuple_iterator",data:=.fields #[.ref a,.int 0 0]} | false=>{ cls:=.type "list_iterator",data:=.fields #[.ref a,.int 0 0]}
theorem ET (a b:Addr)(xs ys:Array Value):
  Meets (Builtin.«zip.__new__» ⟨[.type "zip",.ref a,.ref b],[]⟩) (λ_ R s=>s.heap.IsTuple a xs/\s.heap.IsTuple b ys/\R (.ok (.ret (.ref (VT s.heap (gX true a) (gX true b)).objs.size))) {s with heap:=DS s.heap (gX true a) (gX true b)}):=
 .of_wp λprog w A R s h=>by
  obtain⟨hp,g,d,tk,os⟩:=s;obtain⟨h1,h2,h⟩:=h;have Js:=sub_zip;have q1:Heap.IsTuple (Shared.heap ⟨hp,g,d,tk,os⟩) a xs:=h1
  have q2:Heap.IsTuple (Shared.heap ⟨hp.push { cls:=.type "tuple_iterator",data:=.fields #[.ref a,.int 0 0]},g,d,tk,os⟩) b ys:=Heap.IsTuple.push h2 _
  wp_walk using zdv q1,zdv q2
  exact⟨_,rfl,h⟩
theorem EU (a b:Addr)(xs ys:Array Value):
  Meets (Builtin.«zip.__new__» ⟨[.type "zip",.ref a,.ref b],[]⟩) (λ_ R s=>s.heap.IsList a xs/\s.heap.IsList b ys/\R (.ok (.ret (.ref (VT s.heap (gX false a) (gX false b)).objs.size))) {s with heap:=DS s.heap (gX false a) (gX false b)}):=
 .of_wp λprog w A R s h=>by
  obtain⟨hp,g,d,tk,os⟩:=s;obtain⟨h1,h2,h⟩:=h;have Js:=sub_zip;have q1:Heap.IsList (Shared.heap ⟨hp,g,d,tk,os⟩) a xs:=h1
  have q2:Heap.IsList (Shared.heap ⟨hp.push { cls:=.type "list_iterator",data:=.fields #[.ref a,.int 0 0]},g,d,tk,os⟩) b ys:=Heap.IsList.push h2 _
  wp_walk using zcj q1,zcj q2
  exact⟨_,rfl,h⟩
theorem Jt (κ:Bool)(a b:Addr)(xs ys:Array Value):
  Meets (Builtin.«zip.__new__» ⟨[.type "zip",.ref a,.ref b],[]⟩) (λ_ R s=>pK κ s.heap a xs/\pK κ s.heap b ys/\R (.ok (.ret (.ref (VT s.heap (gX κ a) (gX κ b)).objs.size))) {s with heap:=DS s.heap (gX κ a) (gX κ b)}):=by
 cases κ with
 |true=>exact ET a b xs ys
 |false=>exact EU a b xs ys
theorem BE {κ:Bool}{h:Heap}{a it:Addr}(e:h.get? it=some (gX κ a)):mW κ h it a 0:=by
 cases κ with
 |true=>exact⟨_,e,rfl,rfl⟩
 |false=>exact⟨_,e,rfl,rfl⟩
theorem t8 {κ:Bool}{a:Addr}:(gX κ a).isFreed=false:=by cases κ<;>rfl
theorem pK.lt {κ:Bool}{h:Heap}{a:Addr}{aI:Array Value}(st:pK κ h a aI):a<h.objs.size:=by
 cases κ with
 |true=>obtain⟨o,e,_⟩:=st;exact zal e
 |false=>obtain⟨o,e,_⟩:=st;exact zal e
theorem Mt:bootBuiltins "zip"=some (.type "zip"):=by decide +kernel
open AutoSeq1 (wpAny_loadPart')
theorem Mu (a b:Str):(a++b).cps.toList=a.cps.toList++b.cps.toList:=by rw[Str.cps_append,Array.toList_append]
theorem VU {j l:Addr}{vs:Array Value}(hn:l≠j):∀(m i:Nat) (s:Shared) (Q:List Value->Shared->Prop),s.heap.IsListIter j l i->s.heap.IsList l vs->i+m<=vs.size ->
  (∀h',h'.IsListIter j l (i+m)->Heap.SameBut j s.heap h'->Q ((vs.toList.drop i).take m) {s with heap:=h' })->wpAny (model prog w) A (draw (.ref j) m) Q E s
 |0,i,s,Q,hj,_,_,k=>by
  show wpAny _ _ (pure []) Q E s
  exact zac (by simpa using k s.heap hj (Heap.SameBut.refl ..))
 |m+1,i,s,Q,hj,hl,hle,k=>by
  have lt:i<vs.size:=by omega
  show wpAny _ _ (pyNext (.ref j) >>= _) Q E s
  refine zaa (wpAny_pyNext_list_item hj hl (x:=vs[i]) (by simp[lt]) λg1 j1 b1=>zaa (zaH (VU hn m (i+1) _ _ j1 (hl.extBut b1.extBut hn) (by omega) λg2 j2 b2=>zac ?_)))
  have e:vs.toList.drop i=vs[i]::vs.toList.drop (i+1):=by simp[zcM,lt]
  have q:=k g2 (by rw[show i+(m+1)=i+1+m by omega];exact j2) (b1.trans b2)
  rw[e,List.take_succ_cons] at q;exact q
theorem Sd {s:Shared}{l:Addr}{vs:Array Value}{Q:List Value->Shared->Prop}(hh:A.handled=none)(hl:s.heap.IsList l vs)(k:∀h',Heap.ExtBut s.heap.objs.size s.heap h'->Q vs.toList {s with heap:=h' }):
  wpAny (model prog w) A (unpackItems (.ref l) vs.size none) Q E s:=by
 have lt:l≠s.heap.objs.size:=by obtain⟨o,e,_⟩:=hl;exact zaq (zal e)
 unfold unpackItems;refine zaa ?_
 unfold notIterableAtAll;refine zaa (zdZ hl.typeIs slot_list_iter.lookup (zac ?_))
 simp only[zbq,if_false];refine zaa (zaH (zcj hl (zaa (zaH (VU lt vs.size 0 _ _ ⟨_,zao _ rfl,rfl,rfl⟩ (hl.push _) (by omega) λg1 j1 b1=>?_)))))
 have all:List.take vs.size (List.drop 0 vs.toList)=vs.toList:=by
  rw[List.drop_zero];exact zbl (by simp)
 rw[all,if_neg (by simp)]
 refine zaa (zaH (wpAny_pyNext_list_end hh j1 ((hl.push _).extBut b1.extBut lt) (by simp) λg2 b2=>?_))
 simp only[Option.isSome_none,zbq,if_false];exact zac (k g2 λb o hb e=>b2 b o hb (b1.extBut b o hb (zab _ e)))
noncomputable def ahj (K:PySem.W.Frag)(n:Nat)(t:VF):TG:=λv σ H Q=>∃a xs,v = .ref a/\jC K H a xs/\xs.length=n/\t xs σ H Q
theorem Se {X:Cx}{es:List Expr}{k:Nat}{pos:Pos}{t:VF}{n:Nat}(hc:X.fL=true)(h:QT X es t)
  (hn:(assignEach es X.env).length=n:=by rfl) (qy:(assignEach es X.env).findIdx? (·.1)=none:=by rfl):PG X (.Tuple es k pos) (ahj X.K n t):=by
 intro ah s σ H v u Q I r hw;obtain⟨a,xs,e1,hq,hl,hw⟩:=hw;subst e1;cases r;obtain⟨aI,rv,pl,hz⟩:=I.list hq;rw[assign_Tuple];refine zaa (zcg ?_)
 unfold unpack;have c_:(assignEach es X.env).length=aI.toArray.size:=by simp[hn,<-hl,rv.length]
 rw[c_,qy];refine zaa (zaH (Sd (I.ok.hd hc) pl.isList λh' hx=>?_))
 have I1:aJ X ah σ H {s with heap:=h' }:=I.gA (t':=s.toks) λb o e=>hx b o (zaq (zal e)) e
 exact h ah _ σ H xs _ Q I1 (by simpa using rv) hw
theorem Sf (S:dc X F T fr sc)(hc:X.fL=true)(hi:PI X target dX wi)
  (hg:∀C fp s H xe,PG (pI X (F++T) sc C fp s H xe) target g) (Mb:∀C fp s H xe,EJ (pI X (F++T) sc C fp s H xe) qI ti) (he:∀C fp s H xe,PE (pI X (F++T) sc C fp s H xe) yd te)
  (hN:X.N.Nodup) (hiy:X.N[i0]? = some y) (hly:X.env.scope.names.lookup y=some .local) (hex:X.ex=[])
  (Sg:swapsWith (.ListComp yd [⟨target,dX,qI,0⟩] sc pos) (some (.Name y py)) aaJ.line X.env=pure true:=by rfl) (hs:∀x,foldedSetIterable dX X.env x=pure x:=by intro _;rfl):PS X (.Assign [.Name y py] (.ListComp yd [⟨target,dX,qI,0⟩] sc pos) aaJ) (Ra (GP wi fr T g ti te) (GA i0)):=by
 intro ah s σ H DD I h;rw[exec_Assign_Name_used _ _ _ _ Sg];refine zaa (zcg (zaa ?_))
 show wpAny _ X.A (do let _ <-comprehension (.ListComp yd [⟨target,dX,qI,0⟩] sc pos) sc X.env _ (newList []) false (eval dX X.env) (some (assign (.Name y py) X.env))) _ _ s
 refine zaa (zaQ (BB (use:=some (assign (.Name y py) X.env)) (QQ:=λ_ s'=>SP X ah DD .next s') S hc hi hg Mb he hs I h λD C fp s3 s7 H3 H6 xe Ls I3 f3 RZ I7 qn=>?_) (λ_ s' hq=>zac (zac hq)) λ_ _ e=>e)
 obtain⟨m7,hn7,_⟩:=I7.Bd;have hCn:H6 C=none:=I7.free
 have I8:aJ X ah σ H6 s7:=I3.Gw (s':=s7) (H':=H6) (ch:=fp) I7.os I7.base I7.cA I7.i6 λb hb=>by
  obtain⟨_,q1,_,q2,q3,q4⟩:=f3 b hb;exact⟨q2,q1,q3,q4⟩
 have Cge:X.s₀.heap.objs.size<=C:=by rw[<-RZ];exact I3.sz
 have CL:C≠X.env.locals:=λz=>by
  have:=I3.lt
  rw[<-z,<-RZ] at this;exact zbd _ this
 have CC:∀z c,X.env.cells.lookup z=some c->c≠C:=λz c e q=>by
  obtain⟨v,hv⟩:=I3.cell z c e
  have:=hv.lt
  rw[q,<-RZ] at this;exact zbd _ this
 have CP:∀p∈X.pn++ah,p.1≠C:=λp hp q=>by
  have:=zal (I3.DM p hp).1
  rw[q,<-RZ] at this;exact zbd _ this
 show wpAny _ X.A (assign (.Name y py) X.env (.ref D)) _ _ s7
 refine wpAny_assign_Name (xO I8 hN hiy (.inl hly) (v:=.ref D) rfl (λs8 I9 sb=>?_) (.inr hly))
 obtain⟨a8,sb8,ha8⟩:=sb;have a8C:C≠a8:=by
  rcases ha8 with z|z
  ·rw[z];exact CL
  ·exact zbg (CC _ _ z)
 refine⟨m7,hn7.sameBut sb8 a8C,λh9 hs9=>⟨_,H6,?_,qn⟩⟩
 exact I9.kR (it:=C) (t':=s8.toks) (λb o nb e=>(hs9.2 b nb).trans e) hCn CL (.inr Cge) CC CP
end L2
namespace L2
open PySem PySem.Spec PyProof.Rows
noncomputable def lV (C:Addr)(od:Option Addr)(t:Addr)(tb:Value):Obj:={cls:=.ref C,dict:=od,data:=.fields #[.ref t,tb,.none,.none,.bool false,.none]}
noncomputable def xh (h:Heap)(T:Addr):Prop:=∃oT ts,h.get? T=some oT/\oT.data = .fields ts/\ts[3]? = some Value.none
section
variable {M:Model}{A:Around}{E:Value->Shared->Prop}{s:Shared}
structure Mv (S:List Addr) (a C t:Addr) (od:Option Addr) (h h':Heap) (T:Addr):Prop where
 kT:h'.get? a=some (lV C od t (.ref T))
 tb:xh h' T
 new:h.objs.size<=T
 keep:∀b o,h.get? b=some o->b≠a->b∉S->h'.get? b=some o
 slot:∀b o,h.get? b=some o->b≠a->∃sl,h'.get? b=some {o with slots:=sl}
theorem yg 
  (Ju:A.frames=some (env::outer)) (hl:s.heap.FunFrames base (env::outer)) (hf:env.frame=some L) (ha:s.heap.get? a=some (lV C od t tb))
  (k:∀h' T,Mv ((env::outer).filterMap (·.frame)) a C t od s.heap h' T->Q () {s with heap:=h' }):
  wpAny M A (do let fr <-frameOf env;let pl <-entryPlaceOf L akK;let b <-EntryCells.newEntry head fr .none (rawInt L) .none pl;setField (.ref a) 1 b) (λ_ s'=>wpAny M A (setFlight (.ref a) none) Q E s') E s:=by
 have na:a∉(env::outer).filterMap (·.frame):=λhm=>by
  obtain⟨_,o,ho,hnf⟩:=hl.mem hm;rw[ha] at ho;cases ho;exact hnf _ rfl
 refine zaa (wpAny_frameOf_fun Ju hl hf λg1 BF=>zaa (wpAny_entryPlaceOf λpl hpl=>?_))
 unfold EntryCells.newEntry newFields;refine zaa (zaO ?_ (hpl.sizeOk5 _ _ _ _ _))
 have ha1:g1.get? a=some (lV C od t tb):=(BF.2.1 a na).trans ha
 generalize hts:([head,Value.ref L,Value.none,rawInt L,Value.none]++(if pl.isEmpty then List.replicate 6 Value.none else pl)).toArray=ts
 have h3:3<ts.size:=by rw[<-hts];simp only[zam,zak,zar,zba];omega
 have QW:(g1.push { cls:=.type "traceback",dict:=none,data:=.fields ts}).get? a=some (lV C od t tb):=zab _ ha1
 have Ta:g1.objs.size≠a:=zca (zal ha1)
 refine zbV QW rfl (by show 1<6;decide) ?_
 have ha3:((g1.push { cls:=.type "traceback",dict:=none,data:=.fields ts}).update a (Obj.mapFields (·.setIfInBounds 1 (Value.ref g1.objs.size)))).get? a=some (lV C od t (.ref g1.objs.size)):=by
  rw[zaW _ QW rfl];rfl
 have hT3:((g1.push { cls:=.type "traceback",dict:=none,data:=.fields ts}).update a (Obj.mapFields (·.setIfInBounds 1 (Value.ref g1.objs.size)))).get? g1.objs.size=some { cls:=.type "traceback",dict:=none,data:=.fields ts}:=
  (zaB _ _ (zbg Ta)).trans (zao g1 rfl)
 unfold setFlight;refine zaa (zax ha3 rfl (x:=.ref g1.objs.size) rfl ?_)
 rw[if_pos (show (Value.ref g1.objs.size != Value.none)=true from by simp)]
 refine zbV hT3 rfl h3 (k _ g1.objs.size ?_)
 have keep:∀b o,b≠a->g1.get? b=some o->(((g1.push { cls:=.type "traceback",dict:=none,data:=.fields ts}).update a (Obj.mapFields (·.setIfInBounds 1 (Value.ref g1.objs.size)))).update g1.objs.size
   (Obj.mapFields (·.setIfInBounds 3 ((none:Option Addr).elim Value.none λf=>rawInt f)))).get? b=some o:=λb o nb hb=>by
  have hbT:g1.objs.size≠b:=zca (zal hb)
  rw[zaB _ _ hbT,zaB _ _ (zbg nb)];exact zab _ hb
 refine⟨?_,⟨_,_,zaW _ hT3 rfl,rfl,by simp[h3]⟩,by rw[BF.1];exact zaf _,λb o hb nb nS=>keep b o nb ((BF.2.1 b nS).trans hb),λb o hb nb=>?_⟩
 ·rw[zaB _ _ Ta]
  exact ha3
 ·obtain⟨sl,hs⟩:=BF.2.2 b o hb
  exact⟨sl,keep b _ nb hs⟩
theorem BG 
  (Ju:A.frames=some (env::outer)) (hl:s.heap.FunFrames base (env::outer)) (hf:env.frame=some L) (ha:s.heap.get? a=some (lV C od t .none))
  (k:∀h' T,Mv ((env::outer).filterMap (·.frame)) a C t od s.heap h' T->Q () {s with heap:=h' }):wpAny M A (leaving env (.ref a)) Q E s:=by
 unfold leaving noteFrame;simp only[hf];refine zaa (zaa (zax ha rfl (x:=.none) rfl ?_))
 rw[if_neg (by decide)]
 exact yg Ju hl hf ha k
theorem Jv 
  (Ju:A.frames=some (env::outer)) (hl:s.heap.FunFrames base (env::outer)) (hf:env.frame=some L) (ha:s.heap.get? a=some (lV C od t (.ref T))) (hT:xh s.heap T) (nT:T≠a)
  (k:∀h1 h' T',(∀b o,b≠T->s.heap.get? b=some o->h1.get? b=some o)->xh h1 T->h1.objs.size=s.heap.objs.size->Mv ((env::outer).filterMap (·.frame)) a C t od h1 h' T'->Q () {s with heap:=h' }):wpAny M A (noteFrame (.ref a) env) (λ_ s'=>wpAny M A (setFlight (.ref a) none) Q E s') E s:=by
 obtain⟨oT,ts,eT,dT,h3⟩:=hT;unfold noteFrame;simp only[hf];refine zaa (zax ha rfl (x:=.ref T) rfl ?_)
 rw[if_pos (show (Value.ref T != Value.none)=true from by simp)]
 refine zaa (zax eT dT h3 ?_)
 rw[if_neg (show ¬ ((Value.none == rawInt L)=true) from by simp[rawInt])]
 have sz:=(zdC.mp h3).1
 refine zaa (zbV eT dT sz ?_)
 have Gr:∀b o,b≠T->s.heap.get? b=some o->(s.heap.update T (Obj.mapFields (·.setIfInBounds 3 Value.none))).get? b=some o:=λb o nb e=>(zaB _ _ (zbg nb)).trans e
 have fT:(s.heap.update T (Obj.mapFields (·.setIfInBounds 3 Value.none))).get? T=some (Obj.mapFields (·.setIfInBounds 3 Value.none) oT):=zaW _ eT (zcD (zbs dT _))
 have hl':(s.heap.update T (Obj.mapFields (·.setIfInBounds 3 Value.none))).FunFrames base (env::outer):=hl.of_keeps λb o hb hnf=>⟨o,Gr b o (λq=>by rw[q,eT] at hb;cases hb;exact hnf ts dT) hb,rfl⟩
 refine yg (s:={s with heap:=s.heap.update T (Obj.mapFields (·.setIfInBounds 3 Value.none))}) Ju hl' hf (Gr a _ (zbg nT) ha) λh' T' lf=>k _ h' T' Gr ⟨_,_,fT,zbs dT _,by simp[sz]⟩ ?_ lf
 exact (zcq ..).1
end
theorem Jw (hh:A.handled=none)
  (h:wpAny M A x (λv s1=>∃(a t:Addr) (od:Option Addr) (nm q:Str) (C N:Addr) (bs bm:List Value) (xg:Bool) (sn:List Str) (sub:List Value) (ab:Bool) (tY:Option Bool) (dd:Option Addr) (k0 k1 k2 k3 k5:Option Value) (pL:String),v = .ref a /\
   bm.contains (.type "BaseException")=true/\s1.heap.get? C=some (excClassObj nm q C N bs bm xg sn sub ab tY dd k0 k1 k2 k3 k5 pL)/\s1.heap.get? a=some (k8 C od t)/\E (.ref a) s1) E s):wpAny M A (raiseStmt env (some x) none) Q E s:=by
 unfold raiseStmt;refine zaa (zaQ h (λv s1 h1=>?_) λ_ _ z=>z)
 obtain⟨a,t,od,nm,q,C,N,bs,bm,xg,sn,sub,ab,tY,dd,k0,k1,k2,k3,k5,pL,rfl,hb,hC,ha,hE⟩:=h1;have hcb:(Value.ref C::bm).contains (.type "BaseException")=true:=by rw[zbH,hb,zcQ]
 unfold k8 at ha;obtain⟨hp,g,d,tk,os⟩:=s1;repeat (first|with_reducible refine zbN ha ?_|with_reducible refine zbN hC ?_ | (with_reducible refine zcJ hC ?_;rw[hcb])|wp_step)
 exact wpAny_raiseNew_none hh hE
noncomputable def t9 (a C:Addr)(od:Option Addr)(T:Addr):HO:=.ext λh=>∃t:Addr,h.get? a=some (lV C od t (.ref T))
noncomputable def TB (T:Addr):HO:=.ext λh=>xh h T
theorem Mw (e:h.get? a=some (lV C od t (.ref T))):bZ P w H h a (t9 a C od T):=
 ⟨⟨t,e⟩,⟨_,e⟩,λh1 h2 b_ k=>by obtain⟨t',e'⟩:=b_;exact⟨t',k _ e'⟩⟩
theorem GU (e:xh h T):bZ P w H h T (TB T):=by
 obtain⟨oT,ts,e1,e2,e3⟩:=id e;exact⟨e,⟨_,e1⟩,λh1 h2 cX k=>by obtain⟨o,ts',x1,x2,x3⟩:=cX;exact⟨o,ts',k _ x1,x2,x3⟩⟩
noncomputable def xj (P:Program)(w:World):DO:=λouter H s E e s'=>∃(a T C:Addr) (od:Option Addr) (H':Hp),e = .ref a/\s'.os=s.os/\AllBare s'.gens/\Un (sN outer) [] H H' s.heap s'.heap/\oh P w H' s'.heap /\
 H' a=some (t9 a C od T)/\H' T=some (TB T)/\T≠a/\E (.ref C) (some a) H'
noncomputable def aaM (K:PySem.W.Frag)(E:XK)(te:TE):TS:=λ_ σ H=>te σ H λv H1=>∃(a C f:Addr) (bm:List Value) (od:Option Addr),v = .ref a/\H1 a=some (EO a C od)/\sQ K C f bm /\
 ∀T,H1 T=none->T≠a->E (.ref C) (some a) (bu (bu H1 a (t9 a C od T)) T (TB T))
section
variable {P:Program}{w:World}{K:PySem.W.Frag}{mg:Str->Option Value}{base:Heap}{N:List Str}{bX:Str}{scope:Scope}{f:Addr}{fF:Value}{A:Around}{outer:List Env}{s₀:Shared}{H₀:Hp}{E:XK}
theorem Sh (I:aJ (jE (xj P w) P w K mg base N bX scope f fF A outer s₀ H₀ E) ah σ H s)(ha:∃ φ,H a=some (.ext φ))(Ta:T≠a)
  (Lf:Mv (sN ((jE (xj P w) P w K mg base N bX scope f fF A outer s₀ H₀ E).env::outer)) a C t od s.heap h' T):
  Un (sN outer) [] H₀ (bu (bu H a (t9 a C od T)) T (TB T)) s₀.heap h'/\oh P w (bu (bu H a (t9 a C od T)) T (TB T)) h':=by
 obtain⟨φ,ha⟩:=ha;have hT:H T=none:=I.cA.fresh Lf.new
 have lt:∀b o,s₀.heap.get? b=some o->b<s₀.heap.objs.size:=λb o e=>zal e
 have sz:s₀.heap.objs.size<=s.heap.objs.size:=I.sz
 have bT:∀b o,s₀.heap.get? b=some o->b≠T:=λb o e=>zaq (zan (lt b o e) (zai sz Lf.new))
 have nf:∀b o,s₀.heap.get? b=some o->b∉sN outer->b∉sN ((jE (xj P w) P w K mg base N bX scope f fF A outer s₀ H₀ E).env::outer):=λb o e nb z=>by
  have z':b∈((jE (xj P w) P w K mg base N bX scope f fF A outer s₀ H₀ E).env::outer).filterMap (·.frame):=z
  rw[zcH] at z';have:b=s₀.heap.objs.size\/b∈sN outer:=by
   have z2:b∈s₀.heap.objs.size::outer.filterMap (·.frame):=z'
   exact zap.mp z2
  rcases this with q|q
  ·exact absurd (lt b o e) (by rw[q];exact zbd _)
  ·exact nb q
 have U:=I.base;refine⟨⟨λb o e n1 n2 n3=>?_,λb o e n1 n2 n3=>?_,λb o e n1 n2=>?_,λb o e n2=>?_,λb xs e=>?_,λb o u e=>?_,λb ps e=>?_⟩,λb u e=>?_⟩
 ·have e1:=U.keep b o e n1 n2 n3
  have nb:b≠a:=λz=>by
   have:=U.free b o e n1 n3
   rw[z,ha] at this;cases this
  exact Lf.keep b o e1 nb (nf b o e n2)
 ·obtain⟨sl,e1⟩:=U.slot b o e n1 n2 n3
  have nb:b≠a:=λz=>by
   have:=U.free b o e n1 n3
   rw[z,ha] at this;cases this
  obtain⟨LQ,e2⟩:=Lf.slot b _ e1 nb;exact⟨LQ,e2⟩
 ·have e1:=U.free b o e n1 n2
  have nb:b≠a:=λz=>by rw[z,ha] at e1;cases e1
  rw[av (bT b o e),av nb];exact e1
 ·obtain⟨o',e1⟩:=U.there b o e n2
  by_cases z:b=a
  ·rw[z];exact⟨_,Lf.kT⟩
  ·obtain⟨sl,e2⟩:=Lf.slot b o' e1 z
   exact⟨_,e2⟩
 ·have e1:=U.wV b xs e
  have nb:b≠a:=λz=>by rw[z,ha] at e1;cases e1
  have nT:b≠T:=λz=>by rw[z,hT] at e1;cases e1
  rw[av nT,av nb];exact e1
 ·have e1:=U.tD b o u e
  have nb:b≠a:=λz=>by rw[z,ha] at e1;cases e1
  have nT:b≠T:=λz=>by rw[z,hT] at e1;cases e1
  rw[av nT,av nb];exact e1
 ·obtain⟨jS,e1⟩:=U.wW b ps e
  have nb:b≠a:=λz=>by rw[z,ha] at e1;cases e1
  have nT:b≠T:=λz=>by rw[z,hT] at e1;cases e1
  exact⟨jS,by rw[av nT,av nb];exact e1⟩
 ·by_cases zT:b=T
  ·subst zT
   rw[au] at e;cases e;exact GU Lf.tb
  ·rw[av zT] at e
   by_cases za:b=a
   ·subst za
    rw[au] at e;cases e;exact Mw Lf.kT
   ·rw[av za] at e
    have free:∀c,c∈sN ((jE (xj P w) P w K mg base N bX scope f fF A outer s₀ H₀ E).env::outer)->H c=none:=λc hc=>I.Bl.Li c hc
    refine (I.cA b u e).sj (λc v hc q=>?_) (λc hc=>?_) (λc xs hc=>?_)
    ·have hcn:∃uu,H c=some uu/\c≠a:=by
      rcases hc with z|z
      ·exact⟨u,by rw[z];exact e,by rw[z];exact za⟩
      ·exact⟨_,z,λq=>by rw[q,ha] at z;cases z⟩
     obtain⟨uu,h1,h2⟩:=hcn;refine Lf.keep c v q h2 λz=>?_
     rw[free c z] at h1;cases h1
    ·have nb:c≠a:=λz=>by rw[z,ha] at hc;cases hc
     have nT:c≠T:=λz=>by rw[z,hT] at hc;cases hc
     rw[av nT,av nb];exact hc
    ·have nb:c≠a:=λz=>by rw[z,ha] at hc;cases hc
     have nT:c≠T:=λz=>by rw[z,hT] at hc;cases hc
     rw[av nT,av nb];exact hc
theorem Mx (he:PE (jE (xj P w) P w K mg base N bX scope f fF A outer s₀ H₀ E) ex te):
  PS (jE (xj P w) P w K mg base N bX scope f fF A outer s₀ H₀ E) (.Raise (some ex) none pos) (aaM K E te):=by
 intro ah s σ H D I h;rw[arm_exec_Raise];refine zaa (zcg (Jw (I.ok.hd rfl) ?_))
 refine zaa (zaQ (he ah s σ H _ I h) (λv s1 ⟨y,H1,I1,r,a,C,g,bm,od,ey,ha,Mk,q⟩=>zaa (zcg (zac ?_))) λ_ _ z=>z)
 subst ey;cases (show v=Value.ref a from r)
 obtain⟨nm,qn,N',bs,sn,sub,ab,tY,dd,k0,k1,k2,k3,k5,lk⟩:=Mk.kT;obtain⟨B,eb⟩:=Mk.nb;obtain⟨t,ea⟩:=Ml I1 ha;have hb:bm.contains (.type "BaseException")=true:=by
  rw[eb,zbH];have:sP.contains (.type "BaseException")=true:=by decide +kernel
  rw[this,zcQ]
 refine⟨a,t,od,nm,qn,C,N',bs,bm,true,sn,sub,ab,tY,dd,k0,k1,k2,k3,k5,"ValueError.__new__",rfl,hb,I1.kO _ _ lk,ea,?_⟩
 refine BG (base:=base) (env:=(jE (xj P w) P w K mg base N bX scope f fF A outer s₀ H₀ E).env) (outer:=outer) I1.ok.frames I1.Bl.mj rfl (show s1.heap.get? a=some (lV C od t .none) from ea) λh' T Lf=>?_
 have Ta:T≠a:=zca (zan (zal ea) Lf.new)
 obtain⟨un,cA⟩:=Sh I1 ⟨_,ha⟩ Ta Lf
 exact⟨a,T,C,od,_,rfl,I1.os,I1.i6,un,cA,by rw[av Ta.symm];exact au,au,Ta,q T (I1.cA.fresh Lf.new) Ta⟩
theorem K5.okX {st:Stmt}(F:K5 K x bX st f fd)(S:aq N ps (ak st))(len:∀vs H Q E,sp vs H Q E->vs.length=ps.length)
  (tQ:∀(fF:Value) (A:Around) (outer:List Env) (s:Shared) (H:Hp) (vs:List V) (Q:VK) (E:XK),gV k (A.deeper (envOfC bX (ak st) s.heap.objs.size f fF))->sp vs H Q E ->
   ∃t,xQ (jE (xj P w) P w K mg base N bX (ak st) f fF A outer s H E) (cV st) t/\t {nx:=λ_ H'=>Q .bz H',rt:=Q} (c9 N vs) H):aQ P w K mg base (xj P w) (k+1) f fd ps sp:=by
 obtain⟨oc,od,kV,oN,pm,an,fF,ct,Ew,rfl,lk,Bg⟩:=F.ex;exact LI lk Bg S len λA outer s H vs Q E hr K3=>tQ fF A outer s H vs Q E hr K3
end
theorem aJ.Mz (I:aJ X ah σ H s)(ha:H a=some (t9 a C od T))(hT:H T=some (TB T))(Ta:T≠a)(Ta':T'≠a)(k1:∀b o,b≠T->s.heap.get? b=some o->h1.get? b=some o)(tb1:xh h1 T)(z1:h1.objs.size=s.heap.objs.size)
  (Lf:Mv (sN X.di) a C t od h1 h' T'):aJ X ah σ (bu (bu H a (t9 a C od T')) T' (TB T')) {s with heap:=h' }:=by
 have nT':H T'=none:=I.cA.fresh (by rw[<-z1];exact Lf.new)
 have free:∀c,c∈sN X.di->H c=none:=λc hc=>I.Bl.Li c hc
 have TS:T∉sN X.di:=λz=>by rw[free T z] at hT;cases hT
 have aS:a∉sN X.di:=λz=>by rw[free a z] at ha;cases ha
 have bT':∀b o,s.heap.get? b=some o->b≠T':=λb o e=>zaq (zan (zal e) (by rw[<-z1];exact Lf.new))
 have ne:∀{b},H b=none->b≠a/\b≠T:=λ{b} n=>⟨λz=>(by rw[z,ha] at n;cases n),λz=>(by rw[z,hT] at n;cases n)⟩
 have tb':xh h' T:=by
  obtain⟨oT,ts,e1,e2,e3⟩:=tb1;exact⟨oT,ts,Lf.keep T oT e1 Ta TS,e2,e3⟩
 have ex:∀{b u},H b=some u->(∀ φ,u ≠ .ext φ)->bu (bu H a (t9 a C od T')) T' (TB T') b=some u:=λ{b u} e n=>by
  have nb:b≠a:=λz=>by rw[z,ha] at e;exact n _ (zav e).symm
  have nt:b≠T':=λz=>by rw[z,nT'] at e;cases e
  rw[av nt,av nb];exact e
 refine I.Gw (s':={s with heap:=h' }) (ch:=[]) rfl ⟨λb o e n1 n2 n3=>?_,λb o e n1 n2 n3=>?_,λb o e n1 n2=>?_,λb o e n2=>?_,λb xs e=>ex e (λφ z=>by cases z),λb o u e=>ex e (λφ z=>by cases z),λb ps e=>⟨#[],by rw[ex e (λφ z=>by cases z)];simp⟩⟩ (λb u e=>?_) I.i6 (λb z=>absurd z (by simp))
 ·exact Lf.keep b o (k1 b o (ne n1).2 e) (ne n1).1 n2
 ·exact Lf.slot b o (k1 b o (ne n1).2 e) (ne n1).1
 ·rw[av (bT' b o e),av (ne n1).1]
  exact n1
 ·by_cases za:b=a
  ·rw[za];exact⟨_,Lf.kT⟩
  ·by_cases zT:b=T
   ·rw[zT]
    obtain⟨oT,ts,e1,_⟩:=tb';exact⟨oT,e1⟩
   ·obtain⟨sl,e2⟩:=Lf.slot b o (k1 b o zT e) za
    exact⟨_,e2⟩
 ·by_cases zT':b=T'
  ·subst zT'
   rw[au] at e;cases e;exact GU Lf.tb
  ·rw[av zT'] at e
   by_cases za:b=a
   ·subst za
    rw[au] at e;cases e;exact Mw Lf.kT
   ·rw[av za] at e
    by_cases zT:b=T
    ·subst zT
     rw[hT] at e;cases e;exact GU tb'
    ·refine (I.cA b u e).sj (λc v hc q=>?_) (λc hc=>ex hc (λφ z=>by cases z)) (λc xs hc=>ex hc (λφ z=>by cases z))
     have hcn:∃uu,H c=some uu/\c≠a/\c≠T:=by
      rcases hc with z|z
      ·exact⟨u,by rw[z];exact e,by rw[z];exact za,by rw[z];exact zT⟩
      ·exact⟨_,z,λq=>(by rw[q,ha] at z;cases z),λq=>(by rw[q,hT] at z;cases z)⟩
     obtain⟨uu,g1,g2,g3⟩:=hcn;exact Lf.keep c v (k1 c v g3 q) g2 λz=>by rw[free c z] at g1;cases g1
noncomputable def Cx.mX (X:Cx)(a:Addr):Cx:={X with A:=X.A.mark (some (.ref a)),fL:=false}
theorem aJ.mX (I:aJ X ah σ H s)(a:Addr):aJ (X.mX a) ah σ H s:=
 ⟨⟨I.ok.tF,I.ok.kind,I.ok.tE,I.ok.VB,I.ok.above,I.ok.inj,I.ok.has,I.ok.Zu,λh=>absurd (show false=true from h) zah,I.ok.frames,I.ok.stk,I.ok.exf,I.ok.bs,I.ok.QO,I.ok.jB,I.ok.Eb,I.ok.mj,I.ok.Li⟩,I.os,I.i6,I.base,I.Bd,I.cell,I.free,I.lU,I.DM,I.cA,I.len⟩
theorem aJ.pM {a:Addr}(I:aJ (X.mX a) ah σ H s)(hd:X.fL=true->X.A.handled=none):aJ X ah σ H s:=
 ⟨⟨I.ok.tF,I.ok.kind,I.ok.tE,I.ok.VB,I.ok.above,I.ok.inj,I.ok.has,I.ok.Zu,hd,I.ok.frames,I.ok.stk,I.ok.exf,I.ok.bs,I.ok.QO,I.ok.jB,I.ok.Eb,I.ok.mj,I.ok.Li⟩,I.os,I.i6,I.base,I.Bd,I.cell,I.free,I.lU,I.DM,I.cA,I.len⟩
section
variable {X:Cx}{k:Nat}{g B:Addr}{fd:FuncData}{ps:List Str}{sp:Sp}{e:Expr}{es:List Expr}{t:TA}{x y n fn cB:Str}{i j l:Nat}{xp p cp ap np yp np2 bp hp pos:Pos}
 {VW q':Str} {N':Addr} {VX:List Value} {rH:Bool} {VY:List Str} {BH:List Value} {VZ:Bool} {BI:Option Bool} {DP:Option Addr} {j0 j1 j2 j3 j5:Option Value} {mY:String}
end
end L2
namespace L2
open PySem PySem.Spec PyProof.Rows
theorem at0 {α:Type}{a:α}{xs:List α}:jK (a::xs) 0=some a:=ic (j:=0) rfl
theorem at1 {α:Type}{a b:α}{xs:List α}:jK (a::b::xs) 1=some b:=ic (j:=1) rfl
theorem at2 {α:Type}{a b c:α}{xs:List α}:jK (a::b::c::xs) 2=some c:=ic (j:=2) rfl
theorem at3 {α:Type}{a b c d:α}{xs:List α}:jK (a::b::c::d::xs) 3=some d:=ic (j:=3) rfl
theorem at4 {α:Type}{a b c d e:α}{xs:List α}:jK (a::b::c::d::e::xs) 4=some e:=ic (j:=4) rfl
theorem at5 {α:Type}{a b c d e f:α}{xs:List α}:jK (a::b::c::d::e::f::xs) 5=some f:=ic (j:=5) rfl
theorem at6 {α:Type}{a b c d e f g:α}{xs:List α}:jK (a::b::c::d::e::f::g::xs) 6=some g:=ic (j:=6) rfl
theorem at7 {α:Type}{a b c d e f g h:α}{xs:List α}:jK (a::b::c::d::e::f::g::h::xs) 7=some h:=ic (j:=7) rfl
theorem k9 (ha:H a=none)(hb:H b=some x):bu H a o b=some x:=by rw[av (fK hb ha)];exact hb
noncomputable def ahk:V->V->V->Hp->(Hp->Prop)->Prop:=λo i v H Q=>∃p k,o = .ref p/\i = .int k/\match H p with
 |some (.aM xs)=>(match zK xs.length k with|some j=>Q (bu H p (.aM (xs.set j v)))|none=>False)
 |_=>False
theorem ahl:ZK X ahk:=by
 intro ah s σ H o i v ov iv u Q I ro ri rv h;obtain⟨p,k,rfl,rfl,h⟩:=h;cases e:H p with
 |none=>rw[e] at h;exact h.elim
 |some ob =>
  rw[e] at h;cases ob with
  |aM xs =>
   dsimp only at h
   cases e2:zK xs.length k with
   |none=>rw[e2] at h;exact h.elim
   |some j=>rw[e2] at h;exact LU ah s σ H _ _ v ov iv u Q I ro ri rv ⟨p,xs,k,j,rfl,rfl,e,e2,h⟩
  |_=>exact h.elim
noncomputable abbrev Ev:=St->Hp->Option V
section
variable {X:Cx}{a b c:Expr}{ea eb ec:Ev}{pos ahm:Pos}
variable {dm:List Expr}
end
theorem MA (hc:X.fL=true):jI X (.builtin "sum") (λxs H Q=>∃(l:Addr) (ns:List Int),xs=[.ref l]/\jC X.K H l (ns.map V.int)/\Q (.int ns.sum) H):=by
 intro ah s σ H xs us Q I r h;obtain⟨l,ns,rfl,hl,q⟩:=h;obtain⟨u,rfl,ru⟩:=oz r;cases ru;obtain⟨aI,r2,pl,_⟩:=I.list hl;have hi:=EA r2;obtain⟨ys,e⟩:=hi.allInts.items;have e2:numsOf aI=ns:=hi.numsOf
 have V0:=pl.isList;rw[e] at V0;refine sum_intListG (I.ok.hd hc) V0 λh' tk t' kp=>⟨.int ns.sum,H,I.gA kp,⟨t',?_⟩,q⟩
 have e3:numsOf (intItems ys).toList=ns:=by rw[<-e];exact e2
 rw[nums_intItems] at e3;rw[preSum_eq,zbl (by simp),e3]
inductive DV where
 |fl (v:V)
 |tp (l:List DV)
 |ls (l:List DV)
mutual
noncomputable def iA (K:PySem.W.Frag)(H:Hp):DV->V->Prop
 |.fl w,v=>v=w/\jL w=true
 |.tp l,v=>∃a xs,v = .ref a/\nJ K H a xs/\kj K H l xs
 |.ls l,v=>∃a xs,v = .ref a/\jC K H a xs/\kj K H l xs
noncomputable def kj (K:PySem.W.Frag)(H:Hp):List DV->List V->Prop
 |[],xs=>xs=[]
 |d::l,xs=>∃x r,xs=x::r/\iA K H d x/\kj K H l r
end
mutual
noncomputable def DV.yh:DV->Nat
 |.fl _=>0
 |.tp l=>DV.BJ l+1
 |.ls l=>DV.BJ l+1
noncomputable def DV.BJ:List DV->Nat
 |[]=>0
 |d::l=>max (DV.yh d) (DV.BJ l)
end
theorem MB (h:jL w=true):zN w w=true:=by
 cases w with
 |bz=>rfl
 |bl b=>simp[zN]
 |int i=>simp[zN]
 |str z=>simp[zN]
 |_=>exact absurd (show false=true from h) zah
theorem dZ (n:Nat):(List.range n).all (λ_=>true)=true:=by simp
mutual
theorem Jx (I:aJ X ah σ H s):∀(d:DV) (A:Around) (x y:V) (v u:Value),iA X.K H d x->iA X.K H d y->bG x v->bG y u->A.units+d.yh<cLine->SeqAt.EqAt A s v u true
 |.fl w,A,x,y,v,u,hx,hy,rx,ry,_=>by
  unfold iA at hx hy;obtain⟨rfl,fw⟩:=hx;obtain⟨rfl,_⟩:=hy;have h:=zP (A:=A) (s:=s) rx ry fw fw
  rw[MB fw] at h;exact h
 |.tp l,A,x,y,v,u,hx,hy,rx,ry,hd=>by
  unfold iA at hx hy;obtain⟨a,xs,rfl,sx,dx⟩:=hx;obtain⟨b,ys,rfl,sy,dy⟩:=hy;cases rx;cases ry;obtain⟨aI,r1,p1,_⟩:=I.fj sx;obtain⟨fY,r2,p2,_⟩:=I.fj sy;unfold DV.yh at hd;obtain⟨hl,he⟩:=gp I l A.in1 xs ys aI fY dx dy r1 r2 (by show A.units+1+_<_;omega)
  by_cases V2:a=b
  ·subst V2;exact zdl _
  ·refine zdA V2 ?_
   have h:=SeqAt.RcAt.tuples (A:=A) (e:=λ_=>true) p1 p2 (by omega) λj h1 h2=>he j _ _ (by simpa using zag (by simpa using h1)) (by simpa using zag (by simpa using h2))
   rw[dZ,show (aI.toArray.size == fY.toArray.size)=true by simpa using hl] at h
   exact h
 |.ls l,A,x,y,v,u,hx,hy,rx,ry,hd=>by
  unfold iA at hx hy;obtain⟨a,xs,rfl,sx,dx⟩:=hx;obtain⟨b,ys,rfl,sy,dy⟩:=hy;cases rx;cases ry;obtain⟨aI,r1,p1,_⟩:=I.list sx;obtain⟨fY,r2,p2,_⟩:=I.list sy;unfold DV.yh at hd;obtain⟨hl,he⟩:=gp I l A.in1 xs ys aI fY dx dy r1 r2 (by show A.units+1+_<_;omega)
  by_cases V2:a=b
  ·subst V2;exact zdl _
  ·refine zdA V2 ?_
   have h:=SeqAt.RcAt.lists (A:=A) (e:=λ_=>true) p1.isList p2.isList (by simpa using hl) (by omega) λj h1 h2=>he j _ _ (by simpa using zag (by simpa using h1)) (by simpa using zag (by simpa using h2))
   rw[dZ] at h;exact h
theorem gp (I:aJ X ah σ H s):∀(l:List DV) (A:Around) (xs ys:List V) (us ws:List Value),kj X.K H l xs->kj X.K H l ys->bA xs us->bA ys ws->A.units+DV.BJ l<cLine ->
  us.length=ws.length/\∀(j:Nat) (u w:Value),us[j]? = some u->ws[j]? = some w->SeqAt.EqAt A s u w true
 |[],A,xs,ys,us,ws,hx,hy,rx,ry,_=>by
  unfold kj at hx hy;subst hx hy;cases rx;cases ry;exact⟨rfl,λj u w h=>by simp at h⟩
 |d::l,A,xs,ys,us,ws,hx,hy,rx,ry,hd=>by
  unfold kj at hx hy;obtain⟨x,r,rfl,dx,dr⟩:=hx;obtain⟨y,r',rfl,dy,dr'⟩:=hy;cases rx with
  |cons r1 t1 =>
   cases ry with
   |cons r2 t2 =>
    unfold DV.BJ at hd;obtain⟨hl,he⟩:=gp I l A r r' _ _ dr dr' t1 t2 (by omega)
    refine⟨by simp[hl],λj u w h1 h2=>?_⟩
    cases j with
    |zero =>
     simp only[zaX,zbO] at h1 h2;subst h1 h2;exact Jx I d A x y _ _ dx dy r1 r2 (by omega)
    |succ j =>
     simp only[zaF] at h1 h2;exact he j u w h1 h2
end
noncomputable def ahn (K:PySem.W.Frag)(neg:Bool):R2:=λx y H Q=>∃d:DV,DV.yh d<=50/\(∀w,d ≠ .fl w)/\iA K H d x/\iA K H d y/\Q (.bl (!neg)) H
theorem aaN (hu:X.A.units+100<cLine):kQ X (compareOp .Eq) (ahn X.K false):=by
 intro ah s σ H x y v u Q I rx ry h;obtain⟨d,hd,hn,dx,dy,q⟩:=h;have fS:EP X ah σ Q (.bool true) s:=⟨.bl true,H,I,rfl,q⟩
 cases d with
 |fl w=>exact absurd rfl (hn w)
 |tp l =>
  unfold iA at dx dy;obtain⟨a,xs,rfl,sx,dx⟩:=dx;obtain⟨b,ys,rfl,sy,dy⟩:=dy;cases rx;cases ry;obtain⟨aI,r1,p1,_⟩:=I.fj sx;obtain⟨fY,r2,p2,_⟩:=I.fj sy;unfold DV.yh at hd;obtain⟨hl,he⟩:=gp I l X.A.in1 xs ys aI fY dx dy r1 r2 (by show X.A.units+1+_<_;omega)
  refine SeqAt.eq_tupleAt (e:=λ_=>true) p1 p2 (by omega) (λj h1 h2=>he j _ _ (by simpa using zag (by simpa using h1)) (by simpa using zag (by simpa using h2))) ?_
  rw[dZ,show (aI.toArray.size == fY.toArray.size)=true by simpa using hl]
  exact fS
 |ls l =>
  unfold iA at dx dy;obtain⟨a,xs,rfl,sx,dx⟩:=dx;obtain⟨b,ys,rfl,sy,dy⟩:=dy;cases rx;cases ry;obtain⟨aI,r1,p1,_⟩:=I.list sx;obtain⟨fY,r2,p2,_⟩:=I.list sy;unfold DV.yh at hd;obtain⟨hl,he⟩:=gp I l X.A.in1 xs ys aI fY dx dy r1 r2 (by show X.A.units+1+_<_;omega)
  refine SeqAt.eq_listAt (e:=λ_=>true) p1.isList p2.isList (by simpa using hl) (by omega) (λj h1 h2=>he j _ _ (by simpa using zag (by simpa using h1)) (by simpa using zag (by simpa using h2))) ?_
  rw[dZ];exact fS
theorem aaO (hu:X.A.units+100<cLine):kQ X (compareOp .NotEq) (ahn X.K true):=by
 intro ah s σ H x y v u Q I rx ry h;obtain⟨d,hd,hn,dx,dy,q⟩:=h;have fS:EP X ah σ Q (.bool false) s:=⟨.bl false,H,I,rfl,q⟩
 cases d with
 |fl w=>exact absurd rfl (hn w)
 |tp l =>
  unfold iA at dx dy;obtain⟨a,xs,rfl,sx,dx⟩:=dx;obtain⟨b,ys,rfl,sy,dy⟩:=dy;cases rx;cases ry;obtain⟨aI,r1,p1,_⟩:=I.fj sx;obtain⟨fY,r2,p2,_⟩:=I.fj sy;unfold DV.yh at hd;obtain⟨hl,he⟩:=gp I l X.A.in1 xs ys aI fY dx dy r1 r2 (by show X.A.units+1+_<_;omega)
  have h:=SeqAt.RcNeAt.tuples (e:=λ_=>true) p1 p2 (show X.A.units<cLine by omega) λj h1 h2=>he j _ _ (by simpa using zag (by simpa using h1)) (by simpa using zag (by simpa using h2))
  rw[dZ,show (aI.toArray.size == fY.toArray.size)=true by simpa using hl] at h
  exact h X.prog X.w _ _ fS
 |ls l =>
  unfold iA at dx dy;obtain⟨a,xs,rfl,sx,dx⟩:=dx;obtain⟨b,ys,rfl,sy,dy⟩:=dy;cases rx;cases ry;obtain⟨aI,r1,p1,_⟩:=I.list sx;obtain⟨fY,r2,p2,_⟩:=I.list sy;unfold DV.yh at hd;obtain⟨hl,he⟩:=gp I l X.A.in1 xs ys aI fY dx dy r1 r2 (by show X.A.units+1+_<_;omega)
  have h:=SeqAt.RcNeAt.lists (e:=λ_=>true) p1.isList p2.isList (by simpa using hl) (show X.A.units<cLine by omega) λj h1 h2=>he j _ _ (by simpa using zag (by simpa using h1)) (by simpa using zag (by simpa using h2))
  rw[dZ] at h;exact h X.prog X.w _ _ fS
end L2
namespace L2
open PySem PySem.Spec PyProof.Rows
end L2
namespace L2
open PySem PySem.Spec PyProof.Rows
end L2
namespace My
open PySem L2
end My
namespace My
open PySem L2
end My
namespace L2
open PySem
theorem MC (hc:X.fL=true):jI X (.builtin "any") (λxs H Q=>∃(l:Addr) (bs:List Bool),xs=[.ref l]/\H l=some (.aM (bs.map V.bl))/\Q (.bl (bs.any id)) H):=by
 intro ah s σ H xs us Q I r h;obtain⟨l,bs,rfl,hl,q⟩:=h;obtain⟨u,rfl,ru⟩:=oz r;cases ru;obtain⟨aI,n,rv,e,_⟩:=I.aM hl;have aho:s.heap.IsList l aI.toArray:=⟨_,e,rfl,n,rfl⟩
 refine call_any_walk (zcj aho ?_)
 have sA:l≠s.heap.objs.size:=zaq (zal e)
 have c_:aI.length=bs.length:=by rw[<-rv.length];simp
 refine⟨s.heap.objs.size,_,_,_,_,_,λi=>bs[i]?.getD true,rfl,Walks.list (by exact I.ok.hd hc) s.heap.objs.size l sA aI.toArray,⟨⟨_,zao _ rfl,rfl,rfl⟩,⟨_,zab _ e,rfl,n,rfl⟩⟩,?_,?_⟩
 ·intro i v s' Q' E' hv hq
  have hv:aI[i]? = some v:=by simpa using hv
  have hi:i<bs.length:=by rw[<-c_];exact (zae.mp hv).1
  obtain⟨u,hu,ru⟩:=rv.get (i:=i) (x:=V.bl bs[i]) (by simp[hi])
  rw[hv] at hu;have e1:v=u:=zav hu
  subst e1;cases (show v=Value.bool bs[i] from ru)
  refine zbc ?_
  have e2:bs[i]?.getD true=bs[i]:=by simp[hi]
  have hq:Q' (bs[i]?.getD true) s':=hq
  rw[e2] at hq;exact hq
 ·intro h' tk hk
  refine⟨.bl (bs.any id),H,I.gA λb o e'=>hk b o (by simp;exact zaq (zal e')) (zab _ e'),?_,q⟩
  show Value.bool _=Value.bool _
  congr 1
  rw[zam,c_];rw[zaU,zbW,zbW];constructor
  ·rintro⟨i,hi,hb⟩
   have hi:=zel.mp hi;rw[zag hi] at hb;exact⟨_,zdT hi,hb⟩
  ·rintro⟨b,hb,hbt⟩
   obtain⟨i,hi,e⟩:=List.mem_iff_getElem.mp hb;refine⟨i,zel.mpr hi,?_⟩
   rw[zag hi,Option.getD_some,e];exact hbt
section
variable {α:Type}{H H':Hp}{o:α -> HO}{as:List Addr}{xs:List α}
end
end L2
namespace L2
open PySem PySem.Spec PyProof.Rows
theorem BK (hd:(d == sysModules)=false)(ho:s.heap.get? d=some o)(hc:o.ExactDict)(BL:o.data = .dict es ep)
  (hQ:Q (.ref s.heap.objs.size) { s with heap:=s.heap.push { cls:=.type "dict_keyiterator",data:=.fields #[.ref d,.int 0 0,.int es.size 0,.int ep 0]} }):wpAny (model prog w) A (pyIter (.ref d)) Q E s:=by
 have hT:s.TypeIs (.ref d) "dict" := ⟨o,ho,hc.1⟩
 refine wpAny_pyIter_slot hT F.slot_dict_iter (zbj F.slot_dict_iter hT F.entry_dict_iter ?_ (F.args_dict_iter_1 _))
 unfold Builtin.«dict.__iter__» Builtin.Dict.dictSlotNone
 refine zaa (zaa (wpAny_notOrdered_dict hT (zac (?_:wpAny _ _ (Builtin.Dict.showsAll d >>= _) _ _ s))))
 unfold Builtin.Dict.showsAll;rw[if_neg (by rw[hd];exact zah)]
 refine zaa (zac (zaa (zdH ho BL (zaa (zeb ho BL (zaa (zaO (zac ⟨_,rfl,"dict_keyiterator",_,⟨_,zao _ rfl,rfl⟩,zbz.lookup,?_⟩)))))))) 
 simpa[rawInt] using hQ
theorem MD (DT:s.heap.IsKeyIter it d i es.size ep)(wO:s.heap.get? d=some o)(BL:o.data = .dict es ep)(nL:i<es.size)
  (hQ:∀h',h'.IsKeyIter it d (i+1) es.size ep->Heap.SameBut it s.heap h'->Q (some es[i].key) {s with heap:=h' }):wpAny (model prog w) A (pyNext (.ref it)) Q E s:=by
 obtain⟨oi,hoi,hci,hdi⟩:=id DT;unfold pyNext;refine zaa (zdc (zaN (name:=Str.ofString "__next__") DT.typeIs zbz
  (zbj zbz DT.typeIs zdp (zaa (zac (zaa (zaa ?_)))) (zdo _))))
 first|refine zaa (zbQ DT.typeIs (zac ?_))|refine zaa (dR DT.typeIs (zac ?_))
 refine zaa (wpAny_fieldsOf hoi hdi ?_)
 simp only[(by decide:Builtin.Dict_items.ownsTuple "dict_keyiterator"=false),zbq,if_false]
 show wpAny _ _ (if (Value.ref d == Value.none)=true then _ else _) _ _ s
 rw[if_neg (show ¬ ((Value.ref d == Value.none)=true) from zah)];refine zaa (zac (zaa (zdH wO BL ?_)))
 rw[if_neg (by simp)]
 refine zaa (zac (zaa (zeb wO BL ?_)))
 rw[if_neg (by simp)]
 refine zac ?_
 simp only[show ¬ ((i:Int)<0) from by omega,if_false,zbn,zdJ nL]
 refine zaa ?_
 first|refine zaa (zbQ DT.typeIs (zac ?_))|refine zaa (dR DT.typeIs (zac ?_))
 refine zaa (wpAny_isOneOf_keyiter DT.typeIs (?_:wpAny _ _ (setField (.ref it) 1 (rawInt ((i:Int)+1)) >>= _) _ _ s))
 refine zaa (zbV hoi hdi (by simp) ?_)
 have ahp:(s.heap.update it (Obj.mapFields (·.setIfInBounds 1 (rawInt ((i:Int)+1))))).IsKeyIter it d (i+1) es.size ep:=
  ⟨_,zaW _ hoi (zcD (zbs hdi _)),(Obj.cls_mapFields ..).trans hci,by rw[zbs hdi];simp[rawInt]⟩
 refine zaa (zaH (zaa (wpAny_isOneOf_keyiter (s:={s with heap:=s.heap.update it (Obj.mapFields (·.setIfInBounds 1 (rawInt ((i:Int)+1))))}) ahp.typeIs (?_:wpAny _ _ (pure es[i].key) _ _ _))))
 exact zac (zac ⟨_,rfl,zac (hQ _ ahp (zcq ..))⟩)
theorem ME (hh:A.handled=none)(DT:s.heap.IsKeyIter it d i es.size ep)(wO:s.heap.get? d=some o)(BL:o.data = .dict es ep)(hge:es.size<=i)
  (hQ:∀h',Heap.ExtBut it s.heap h'->Q none {s with heap:=h' }):wpAny (model prog w) A (pyNext (.ref it)) Q E s:=by
 obtain⟨oi,hoi,hci,hdi⟩:=id DT;unfold pyNext;refine zaa (zdc (zaN (name:=Str.ofString "__next__") DT.typeIs zbz
  (zbj zbz DT.typeIs zdp (zaa (zac (zaa (zaa ?_)))) (zdo _))))
 first|refine zaa (zbQ DT.typeIs (zac ?_))|refine zaa (dR DT.typeIs (zac ?_))
 refine zaa (wpAny_fieldsOf hoi hdi ?_)
 simp only[(by decide:Builtin.Dict_items.ownsTuple "dict_keyiterator"=false),zbq,if_false]
 show wpAny _ _ (if (Value.ref d == Value.none)=true then _ else _) _ _ s
 rw[if_neg (show ¬ ((Value.ref d == Value.none)=true) from zah)];refine zaa (zac (zaa (zdH wO BL ?_)))
 rw[if_neg (by simp)]
 refine zaa (zac (zaa (zeb wO BL ?_)))
 rw[if_neg (by simp)]
 refine zac ?_
 simp only[show ¬ ((i:Int)<0) from by omega,if_false,zbn,Array.getElem?_eq_none hge]
 refine zaa ?_
 first|refine zaa (zbQ DT.typeIs (zac ?_))|refine zaa (dR DT.typeIs (zac ?_))
 show wpAny _ _ (setField (.ref it) 0 .none >>= _) _ _ s
 refine zaa (zbV hoi hdi (by simp) (?_:wpAny _ _ (newExc (.type "StopIteration") [] >>= _) _ _ _))
 refine zaa ?_
 simp only[newExc,newTuple];refine zaa (zaO ?_ (by size_fits))
 refine zaa (m:=firstArgMember _ _) (wpAny_of_eq (a:=Value.none) (by first|rfl | (simp only[firstArgMember];rfl)) ?_)
 refine zaO ?_ (by size_fits)
 simp only[raiseNew];refine zaa (wpAny_handled ?_)
 rw[show A.in1.handled=none from hh];refine zaa (zac (wpAny_throw ?_))
 refine zaa (zdS (T:= "StopIteration") (b:=true) ⟨_,zao _ rfl,rfl⟩ zeq ?_)
 exact zac (hQ _ (((zcq ..).extBut.push _).push _))
noncomputable def Itd (a:Addr)(o:Obj)(u:HO)(ks:List V):It:=⟨λi H=>H a=some (.qw o u)/\i<ks.length,λi H x H'=>H'=H/\ks[i]? = some x,λi H=>H a=some (.qw o u)/\ks.length<=i⟩
theorem yi {K:W.Frag}(a it:Addr)(hc:o.ExactDict)(hd:o.data = .dict es ep)(hn:es.size=ks.length)(hk:∀i (h:i<es.size) x,ks[i]? = some x->bG x es[i].key):
  Ed P w K tg (Itd a o u ks) [it] it (λi h=>h.IsKeyIter it a i es.size ep) where
 mem:=by simp
 kT:=λi h st b hb=>by
  have e:b=it:=by simpa using hb
  subst e;obtain⟨o,e,c,d⟩:=st;exact⟨o,e,λv z=>by rw[d] at z;cases z⟩
 keep:=λi h h' st k=>st.at λo e=>k it (by simp) o e
 item:=by
  intro X hP hw hK hcm i ah s σ H E I hf st hg;subst hP hw hK;obtain⟨ha,hi⟩:=hg;obtain⟨ho,_⟩:=(show bZ X.prog X.w H s.heap a (.qw o u) from I.cA a _ ha)
  obtain⟨f0,f1,f2,f3,f4,f5⟩:=hf it (by simp)
  have hi2:i<es.size:=by omega
  refine MD st ho hd hi2 λh' IU sb=>?_
  have I1:aJ X ah σ H {s with heap:=h' }:=I.kR (t':=s.toks) (λb o hb e=>(sb.2 b hb).trans e) f0 f1 f3 f4 f5
  obtain⟨oi,e,c,d⟩:=id IU;exact⟨_,rfl,GB (s:={s with heap:=h' }) e c d (by decide) ⟨ks[i],H,I1,hk i hi2 _ (zag hi),⟨rfl,zag hi⟩,IU,λb hb=>(hf b hb).1⟩⟩
 done:=by
  intro X hP hw hK hcm i ah s σ H E I hf st hg;subst hP hw hK;obtain⟨ha,hi⟩:=hg;obtain⟨ho,_⟩:=(show bZ X.prog X.w H s.heap a (.qw o u) from I.cA a _ ha)
  obtain⟨f0,f1,f2,f3,f4,f5⟩:=hf it (by simp)
  exact ME (I.ok.hd hcm) st ho hd (by omega) λh' eb=>⟨rfl,I.kR (t':=s.toks) (λb o hb e=>eb b o hb e) f0 f1 f3 f4 f5⟩
 self:=λ_ _ _ _ _ st h=>wpAny_pyIter_keyiter st h
theorem Si (h:mP k v=true):bG (kV k) v:=by
 rcases cZ h with⟨i,t,rfl,rfl⟩|⟨x,t,rfl,rfl⟩
 ·exact⟨t,rfl⟩
 ·exact⟨t,rfl⟩
theorem Paired.ahq {α β γ:Type}{F:α -> β -> Prop}{G:α -> γ -> Prop}{f:β -> γ}(h:∀a b,F a b->G a (f b)):∀{l:List α} {m:List β},Paired F l m->Paired G l (m.map f)
 |_,_,.nil=>.nil
 |_,_,.cons r t=>.cons (h _ _ r) (Paired.ahq h t)
noncomputable def MF (H:Hp)(u:HO)(ks:List V):Prop:=match u with
 |.dK aK=>ks=aK.map λp=>kV p.1
 |.dT aK=>Paired (λ(p:List dh×V) (x:V)=>∃b,x = .ref b/\H b=some (.fP (p.1.map kV))) aK ks
 |_=>False
noncomputable def GV:HO->Prop|.dK _=>True|.dT _=>True|_=>False
theorem GW {P:Program}{w:World}{H:Hp}(hu:GV u)(x:bZ P w H h a u):(a == sysModules)=false/\∃o ks es ep,h.get? a=some o/\MF H u ks/\o.ExactDict/\o.data = .dict es ep/\es.size=ks.length/\∀i (h:i<es.size) x,ks[i]? = some x->bG x es[i].key:=by
 cases u with
 |dK aK =>
  obtain⟨_,hs,vs,kv,o,es,ep,ho,hc,hd,hk,hp,hn⟩:=x;have hl:=hp.length;have kl:=kv.length;have kk:=kv.qC;refine⟨hs,o,_,es,ep,ho,rfl,hc,hd,by rw[zad,kl,<-hl];simp,λi hi y hy=>?_⟩
  rw[zas] at hy;have hiv:i<vs.length:=by rw[<-hl];simpa using hi
  have e1:(aK.map (·.1))[i]? = (vs.map (·.1))[i]?:= by rw[kk]
  rw[zas,zas,zag hiv] at e1;rw[zag (by omega)] at hy e1
  simp only[zbL,zbO] at hy e1
  have:=(hp.get? (i:=i) (e:=es[i]) (k:=vs[i].1) (v:=vs[i].2) (by simp[hi]) (by rw[zag hiv])).1
  rw[<-hy,e1];exact Si this
 |dT aK =>
  obtain⟨_,hs,xs,pr,o,es,ep,ho,hc,hd,he,hn⟩:=x;have hl:es.size=xs.length:=by have:=congrArg List.length he;simpa using this
  refine⟨hs,o,xs.map λq=>.ref q.2.1,es,ep,ho,?_,hc,hd,by rw[zad,hl],λi hi y hy=>?_⟩
  ·show Paired _ aK (xs.map λq=>V.ref q.2.1)
   exact Paired.ahq (λp q h=>⟨_,rfl,h.2.1⟩) pr
  ·rw[zas,zag (by omega)] at hy
   simp only[zbL,zbO] at hy;have e1:es[i]=entryOfKey (tupleKind (bS P w)) (xs[i]'(by omega)):=by
    have:=entry_at he i
    rw[zdJ hi,zag (by omega)] at this
    simpa using this
   rw[<-hy,e1];rfl
 |_=>exact hu.elim
noncomputable def amB (tl:TE):TI:=λσ H R=>tl σ H λx H1=>∃a u,x = .ref a/\GV u/\((H1 a=some u/\∀o ks,MF H1 u ks->R (Itd a o u ks) (bu H1 a (.qw o u)))\/∃o,H1 a=some (.qw o u)/\∀ks,MF H1 u ks->R (Itd a o u ks) H1)
theorem Sj {l:Expr}{tl:TE}(hl:PE X l tl):PI X tg l (amB tl):=by
 intro ah s σ H R I h;refine cM (hl ah s σ H _ I h) λv s1 b_=>?_
 obtain⟨x,H1,I1,r1,q1⟩:=b_;obtain⟨a,u,e,hu,q⟩:=q1;subst e;cases r1;rcases q with⟨ha,q⟩|⟨o,ha,q⟩
 ·obtain⟨hs,o,ks,es,ep,ho,hk,hc,hd,hn,hr⟩:=GW hu (I1.cA a u ha)
  refine BK hs ho hc hd ?_
  have mu:Mut (H1 a):=by rw[ha];cases u<;>first|exact hu.elim|trivial
  have I2:aJ X ah σ (bu H1 a (.qw o u)) { s1 with heap:=s1.heap.push { cls:=.type "dict_keyiterator",data:=.fields #[.ref a,.int 0 0,.int es.size 0,.int ep 0]} }:=I1.jH (t':=s1.toks) (x:=a) (e:=a) mu (.inl rfl) (λb v _ e=>zab _ e) ⟨o,zab _ ho⟩
   ⟨zab _ ho,(I1.cA a u ha).sj (λb v _ e=>zab _ e) (λb hb=>by rw[av (λz=>by subst z;rw[ha] at hb;cases hb;exact hu.elim)];exact hb) λb xs hb=>by rw[av (λz=>by subst z;rw[ha] at hb;cases hb;exact hu.elim)];exact hb⟩
  refine⟨s1.heap.objs.size,[s1.heap.objs.size],_,_,_,rfl,I2,yi a _ hc hd hn hr,⟨_,zao _ rfl,rfl,rfl⟩,λb hb=>?_,q o ks hk⟩
  have e:b=s1.heap.objs.size:=by simpa using hb
  subst e;exact I1.IS (zaf _) (by rw[av (λz=>absurd (I1.cA.lt ha) (by rw[<-z];exact zbd _))];exact I1.cA.fresh (zaf _))
 ·have hob:=(show bZ X.prog X.w H1 s1.heap a (.qw o u) from I1.cA a _ ha)
  obtain⟨hs,o',ks,es,ep,ho,hk,hc,hd,hn,hr⟩:=GW hu hob.2;have eo:o'=o:=by have:=hob.1;rw[ho] at this;exact zav this
  subst eo;refine BK hs ho hc hd ?_
  refine⟨s1.heap.objs.size,[s1.heap.objs.size],_,_,H1,rfl,I1.gA (t':=s1.toks) λb o e=>zab _ e,yi a _ hc hd hn hr,⟨_,zao _ rfl,rfl,rfl⟩,λb hb=>?_,q ks hk⟩
  have e:b=s1.heap.objs.size:=by simpa using hb
  subst e;exact I1.IS (zaf _) (I1.cA.fresh (zaf _))
section
variable {X:Cx}{o:Expr}{lo:Option Expr}{to:TE}{tl:TO}{p2 pos:Pos}
end
theorem Jy:typeLookup (.type "list") "keys"=pure none:=am_miss_of_fast (by decide +kernel)
theorem Jz (hx:s.heap.get? a=some { cls:=.type "list",data:=.seq xs k})(hA:A.handled=none)
  (h:∀h' tk,(∀b o,s.heap.get? b=some o->h'.get? b=some o)->Q none {s with heap:=h',toks:=tk}):wpAny (model prog w) A (getAttr? (.ref a) "keys") Q E s:=by
 obtain⟨hp,g,d,tk,os⟩:=s;have hT:∀tk',(⟨hp,g,d,tk',os⟩:Shared).TypeIs (.ref a) "list" := λ_=>⟨_,hx,rfl⟩
 have f1:=sub_AttributeError;have f3:=zcR.lookup;have f4:=zcR.bind (.ref a)
 have f5:=am_list_getattr_none;unfold getAttr? getAttrBy? getAttrBy
 repeat (any_goals (first|assumption|exact hT _ | ((with_reducible show wpAny _ _ (call (Value.builtin "list.__getattribute__") _ _) _ _ _);refine zcV zcR (hT _) am_entry_list_getattribute (F.args_list_getattribute_2 _ _) (meets_getattribute_miss_list a xs k #[] _ _ Jy (by decide +kernel)) ⟨hx,hA,λh' tk' e QU=>?_⟩)|wp_step))
 ·obtain⟨t',u',he⟩:=QU.there
  show wpAny _ _ (getattributeRaised _ _ _ _ _ _ _) _ _ _
  unfold getattributeRaised;repeat (any_goals (first|assumption|wp_step))
  exact h _ _ QU.keeps
theorem yj:entryFor table "dict.update.loop"=some Builtin.«dict.update.loop»:= entryFor_of_tree (by kernel_rfl)
theorem nM:plainId "dict.update.loop"=true:=by decide +kernel
noncomputable def t_ (kv:Nat->dh×Value):Nat->List (dh×Value)
 |0=>[]
 |i+1=>stored (t_ kv i) (kv i).1 (kv i).2
theorem EV (l:List (dh×Value))(k:dh)(v:Value):(stored l k v).length<=l.length+1:=by
 unfold stored;split
 ·rw[zad];omega
 ·simp
theorem z6 (kv:Nat->dh×Value):∀i,(t_ kv i).length<=i
 |0=>zaf _
 |i+1=>zai (EV _ _ _) (Nat.succ_le_succ (z6 kv i))
section
variable {prog:Program}{w:World}{A:Around}{R:Result->Shared->Prop}{I:Addr}{fp wr:List Addr}{G:Array GenState->Array GenState->Prop}{n:Nat}{P:Nat->Value->Prop}{St:Nat->Shared->Prop}
theorem DictOf.gA {h h':Heap}(q:h.DictOf (bS prog w) S l)(k:∀o,h.get? S=some o->h'.get? S=some o):h'.DictOf (bS prog w) S l:=by
 obtain⟨o,es,ep,ho,dm⟩:=q;exact⟨o,es,ep,k o ho,dm⟩
noncomputable def qJ (h:Heap)(a:Addr)(k x:Value):Prop:=∃o m,h.get? a=some o/\o.cls = .type "tuple" /\ o.data = .seq #[k,x] m
theorem JA (W:WalksS prog w A.in1 I fp wr G n P St)(S:Addr)(hSf:S∉fp)(ad:Nat->Addr)(kk:Nat->Value)(kv:Nat->dh×Value)(aaQ:∀i v,P i v->v = .ref (ad i))(Lz:∀i,i<n->mP (kv i).1 (kk i)=true)(hn:n<=1000)(had:∀i,i<n->ad i∉S::wr)(j:Nat):
  ∀(i:Nat) (t:Tok) (s:Shared),n=i+j->St i s->s.heap.DictOf (bS prog w) S (t_ kv i)->(∀m,m<n->qJ s.heap (ad m) (kk m) (kv m).2) ->
   (∀s',Moved (S::wr) G s s'->s'.heap.DictOf (bS prog w) S (t_ kv n)->R (.ok (.ret .none)) s')->codeAny (model prog w) A (.builtin "dict.update.loop" ⟨[.ref S,.ref I,.int i t,.none],[]⟩) R s:=by
 have hSw:S∉wr:=λh=>hSf (W.sub _ h)
 induction j with
 |zero =>
  intro i t s hi qy hS hp hR;subst hi;refine codeAny_builtin yj ?_
  rw[Around.under_plainId nM _];refine zaa (W.done s _ _ qy λs' hm=>?_)
  show wpAny _ _ (Builtin.Dict.addKeywords S [] >>= _) _ _ _
  exact zaa (zac (zac (hR s' (hm.mono λb hb=>zaP _ hb) (DictOf.gA hS λo ho=>hm.heap S o hSw ho))))
 |succ j ih =>
  intro i t s hi qy hS hp hR;refine codeAny_builtin yj ?_
  rw[Around.under_plainId nM _];refine zaa (W.item i s _ _ (by omega) qy λv s' hP amC hm=>?_)
  have hv:=aaQ i v hP;subst hv;have hS':s'.heap.DictOf (bS prog w) S (t_ kv i):=DictOf.gA hS λo ho=>hm.heap S o hSw ho
  have hp':∀m,m<n->qJ s'.heap (ad m) (kk m) (kv m).2:=λm hmn=>by
   obtain⟨o,q,ho,dm⟩:=hp m hmn;exact⟨o,q,hm.heap _ o (λz=>had m hmn (zaP _ z)) ho,dm⟩
  obtain⟨o,q,ho,hc,hd⟩:=hp' i (by omega)
  have hT:s'.TypeIs (.ref (ad i)) "tuple" := ⟨o,ho,hc⟩
  refine zaa (zaH ?_)
  refine zaa (wpAny_tryCatch ?_)
  unfold Builtin.Dict.pairItems;refine zaa (zdj hT ?_)
  rw[if_pos (by decide)]
  unfold seqItems?
  refine zaa (zaa (wpAny_load ho ?_))
  rw[hd];refine zac (zac ?_)
  show wpAny _ _ (holding [kk i,(kv i).2] (dictSet S (kk i) (kv i).2)) _ _ _
  have hle:=z6 kv i;refine zaH (wpAny_dictSet_pairs (Lz i (by omega)) hS' (λh' BN VR=>?_) (zai (by omega:(t_ kv i).length<=1000) (by decide)))
  refine zac ⟨plainId_quiet nM _,ih (i+1) _ _ (by omega) (W.frame _ s' _ _ amC (zbE _) λb hb o e=>?_) BN (λm hmn=>?_) λs'' amE amF=>?_⟩
  ·rw[VR.2 b (λz:b=S=>hSf (by rw[<-z];exact hb))];exact e
  ·obtain⟨o2,q2,ho2,dm⟩:=hp' m hmn
   exact⟨o2,q2,by rw[VR.2 _ (λz=>had m hmn (by rw[z];exact zbZ))];exact ho2,dm⟩
  ·refine hR s'' (Moved.trans W.gtrans ((hm.mono λb hb=>zaP _ hb).then_heap (zbE _) λb o hb e=>?_) amE) amF
   rw[VR.2 b (λz:b=S=>hb (by rw[z];exact zbZ))];exact e
end
section
variable {prog:Program}{w:World}{A:Around}{E:Value->Shared->Prop}{s:Shared}
theorem sF {l:Addr}{ad:Nat->Addr}{kk:Nat->Value}(hh:A.handled=none)(hol:s.heap.get? l=some { cls:=.type "list",data:=.seq items nl})
  (aaQ:∀i v,items[i]? = some v->v=Value.ref (ad i)) (Lz:∀i,i<items.size->mP (kv i).1 (kk i)=true) (hn:items.size<=1000) (hp:∀m,m<items.size->qJ s.heap (ad m) (kk m) (kv m).2)
  (h:∀(h':Heap) (tk:Nat),h'.DictOf (bS prog w) s.heap.objs.size (t_ kv items.size)->(∀b o,s.heap.get? b=some o->h'.get? b=some o)->Q (.ref s.heap.objs.size) {s with heap:=h',toks:=tk}):
  wpAny (model prog w) A (call (.type "dict") [.ref l]) Q E s:=by
 refine callType_codes (Q₁:= λkT cN=>kT = .ref s.heap.objs.size/\cN = { s with heap:=s.heap.push { cls:=.type "dict",data:=.dict #[]} }) F.kt_called_dict (F.kt_typeCall_dict_1 _) F.entry_dict_init (kt_code_dict_new _ ⟨rfl,rfl⟩) ?_
 rintro kT cN ⟨rfl,rfl⟩
 have L1:(s.heap.push { cls:=.type "dict",data:=.dict #[]}).DictOf (bS prog w) s.heap.objs.size []:=Heap.DictOf.new s.heap
 have aaR:(s.heap.push { cls:=.type "dict",data:=.dict #[]}).get? l=some { cls:=.type "list",data:=.seq items nl}:=zab _ hol
 have hlS:l<s.heap.objs.size:=zal hol
 refine⟨L1.typeIs,F.args_dict_init_2 _ _,?_⟩
 unfold Builtin.«dict.__init__»
 refine zaa ?_
 unfold Builtin.Dict.selfAndRest;refine zaa (wpAny_notOrdered_dict L1.typeIs (?_:wpAny _ _ (pure (s.heap.objs.size,[Value.ref l])) _ _ _))
 refine zac ?_
 show wpAny _ _ (Builtin.Dict.updateFrom "dict.__init__" s.heap.objs.size (.ref l) [] .none) _ _ _
 unfold Builtin.Dict.updateFrom;refine zaa (zdj (T:= "list") ⟨_,aaR,rfl⟩ ?_)
 rw[if_pos (by decide)]
 refine zaa (Jz aaR (by simp[hh]) λh1 tk1 hk1=>?_)
 simp only[zdx,if_true];refine zaa (zcU ?_)
 have amG:h1.get? l=some { cls:=.type "list",data:=.seq items nl}:=hk1 _ _ aaR
 have V3:h1.DictOf (bS prog w) s.heap.objs.size []:=DictOf.gA L1 λo ho=>hk1 _ _ ho
 have V5:h1.IsList l items:=⟨_,amG,rfl,nl,rfl⟩
 have Sk:s.heap.objs.size<h1.objs.size:=by
  obtain⟨o,_,_,ho,_⟩:=V3;exact zal ho
 refine zaa (zcj (s:={s with heap:=h1,toks:=tk1}) V5 ?_)
 refine zac ?_
 refine⟨plainId_quiet nM _,?_⟩
 have amH:l≠h1.objs.size:=zaq (zdO hlS Sk)
 have hSf:s.heap.objs.size∉[h1.objs.size,l]:=by
  simp only[zap,zaC,or_false,not_or];exact⟨zaq Sk,zca hlS⟩
 have hp1:∀m,m<items.size->qJ h1 (ad m) (kk m) (kv m).2:=λm hm=>by
  obtain⟨o,q,ho,dm⟩:=hp m hm;exact⟨o,q,hk1 _ _ (zab _ ho),dm⟩
 refine JA ((Walks.list (by simp[hh]) _ l amH items).toS) s.heap.objs.size hSf ad kk kv (λi v hv=>aaQ i v hv) Lz hn (λi hi=>?_) items.size 0 _ _ (by omega)
  ⟨⟨_,zao _ rfl,rfl,rfl⟩,(V5.push _)⟩ (DictOf.gA V3 λo ho=>zab _ ho) (λm hm=>?_) ?_
 ·obtain⟨o,q,ho,_⟩:=hp i hi
  have:=zal ho
  simp only[zap,zaC,or_false,not_or];exact⟨zaq this,zaq (zdO this Sk)⟩
 ·obtain⟨o,q,ho,dm⟩:=hp1 m hm
  exact⟨o,q,zab _ ho,dm⟩
 ·intro s' hm hS'
  obtain⟨h',g',d',tk',os'⟩:=s';have eg:g'=s.gens:=hm.gens
  have ed:d'=s.drawn:=hm.drawn
  have eo:os'=s.os:=hm.os
  subst eg;subst ed;subst eo;refine⟨rfl,h h' tk' hS' λb o e=>?_⟩
  have hb0:=zal e;exact hm.heap b o (by simp only[zap,zaC,or_false,not_or];exact⟨zaq hb0,zaq (zdO hb0 Sk)⟩) (zab _ (hk1 _ _ (zab _ e)))
end
inductive Tr where
 |bz|bl (b:Bool)|int (i:Int)|str (x:Str)|tp (l:List Tr)|ls (l:List Tr)|kt (l:List Tr)|kl (l:List Tr)|hd (n:Nat)
inductive Ce where
 |ua|aM (l:List Tr)|gS (l:List (dh×Tr))|fH (c:Str) (fs:List (Str×Tr))|xm (c:Str) (fs:List (Str×Tr))|i7 (l:List (List dh×Tr))|xo (l:List (dh×Tr))|sG (l:List (List dh×Tr))
noncomputable def Ce.fz:Ce->Bool|.ua=>true|.xo _=>true|.sG _=>true|_=>false
noncomputable abbrev Cs:=List Ce
structure Wd where
 K:W.Frag
 n:Nat
 ρ:Nat->Addr
 F:Hp
 hid:Hp
structure Wd.le (w w':Wd):Prop where
 K:w'.K=w.K
 n:w.n<=w'.n
 r:∀i,i<w.n->w'.ρ i=w.ρ i
 F:∀b o,w.F b=some o->w'.F b=some o
 hid:w'.hid=w.hid
theorem Wd.le.refl (w:Wd):w.le w:=⟨rfl,zaf _,λ_ _=>rfl,λ_ _ h=>h,rfl⟩
theorem Wd.le.trans {a b c:Wd}(h:a.le b)(g:b.le c):a.le c:=
 ⟨g.K.trans h.K,zai h.n g.n,λi hi=>(g.r i (zan hi h.n)).trans (h.r i hi),λb o e=>g.F b o (h.F b o e),g.hid.trans h.hid⟩
mutual
noncomputable def RT (w:Wd):Tr->V->Prop
 |.bz,v=>v = .bz
 |.bl b,v=>v = .bl b
 |.int i,v=>v = .int i
 |.str x,v=>v = .str x
 |.tp l,v=>∃a xs,v = .ref a/\w.F a=some (.fP xs)/\bJ w l xs
 |.ls l,v=>∃a xs,v = .ref a/\w.F a=some (.aM xs)/\bJ w l xs
 |.kt l,v=>∃a xs,v = .ref a/\nJ w.K w.F a xs/\bJ w l xs
 |.kl l,v=>∃a xs,v = .ref a/\jC w.K w.F a xs/\bJ w l xs
 |.hd n,v=>n<w.n/\v = .ref (w.ρ n)
noncomputable def bJ (w:Wd):List Tr->List V->Prop
 |[],xs=>xs=[]
 |d::l,xs=>∃x r,xs=x::r/\RT w d x/\bJ w l r
end
theorem Rd.mono {H H':Hp}(h:∀b o,H b=some o->H' b=some o){a:Addr}{u:HO}(r:Rd H a u):Rd H' a u:=by
 rcases r with r|⟨o,r⟩
 ·exact .inl (h _ _ r)
 ·exact .inr ⟨o,h _ _ r⟩
theorem jC.mono {K:W.Frag}{H H':Hp}(h:∀b o,H b=some o->H' b=some o){a:Addr}{xs:List V}(r:jC K H a xs):jC K H' a xs:=r.imp (Rd.mono h) id
theorem nJ.mono {K:W.Frag}{H H':Hp}(h:∀b o,H b=some o->H' b=some o){a:Addr}{xs:List V}(r:nJ K H a xs):nJ K H' a xs:=r.imp (Rd.mono h) id
mutual
theorem RT.mono {w w':Wd}(le:w.le w'):∀(t:Tr) (v:V),RT w t v->RT w' t v
 |.bz,v,h=>by unfold RT at h ⊢;exact h
 |.bl b,v,h=>by unfold RT at h ⊢;exact h
 |.int b,v,h=>by unfold RT at h ⊢;exact h
 |.str b,v,h=>by unfold RT at h ⊢;exact h
 |.tp l,v,h=>by
  unfold RT at h ⊢
  obtain⟨a,xs,e,s,r⟩:=h;exact⟨a,xs,e,le.F _ _ s,bJ.mono le l xs r⟩
 |.ls l,v,h=>by
  unfold RT at h ⊢
  obtain⟨a,xs,e,s,r⟩:=h;exact⟨a,xs,e,le.F _ _ s,bJ.mono le l xs r⟩
 |.kt l,v,h=>by
  unfold RT at h ⊢
  obtain⟨a,xs,e,s,r⟩:=h;exact⟨a,xs,e,by rw[le.K];exact s.mono le.F,bJ.mono le l xs r⟩
 |.kl l,v,h=>by
  unfold RT at h ⊢
  obtain⟨a,xs,e,s,r⟩:=h;exact⟨a,xs,e,by rw[le.K];exact s.mono le.F,bJ.mono le l xs r⟩
 |.hd n,v,h=>by
  unfold RT at h ⊢
  exact⟨zan h.1 le.n,by rw[le.r n h.1];exact h.2⟩
theorem bJ.mono {w w':Wd}(le:w.le w'):∀(l:List Tr) (xs:List V),bJ w l xs->bJ w' l xs
 |[],xs,h=>by unfold bJ at h ⊢;exact h
 |d::l,xs,h=>by
  unfold bJ at h ⊢
  obtain⟨x,r,e,h1,h2⟩:=h;exact⟨x,r,e,RT.mono le d x h1,bJ.mono le l r h2⟩
end
mutual
theorem RT.bw {w:Wd}(hid:Hp):∀(t:Tr) (v:V),RT w t v->RT {w with hid:=hid} t v
 |.bz,v,h=>by unfold RT at h ⊢;exact h
 |.bl b,v,h=>by unfold RT at h ⊢;exact h
 |.int b,v,h=>by unfold RT at h ⊢;exact h
 |.str b,v,h=>by unfold RT at h ⊢;exact h
 |.tp l,v,h=>by unfold RT at h ⊢;obtain⟨a,xs,e,s,r⟩:=h;exact⟨a,xs,e,s,bJ.bw hid l xs r⟩
 |.ls l,v,h=>by unfold RT at h ⊢;obtain⟨a,xs,e,s,r⟩:=h;exact⟨a,xs,e,s,bJ.bw hid l xs r⟩
 |.kt l,v,h=>by unfold RT at h ⊢;obtain⟨a,xs,e,s,r⟩:=h;exact⟨a,xs,e,s,bJ.bw hid l xs r⟩
 |.kl l,v,h=>by unfold RT at h ⊢;obtain⟨a,xs,e,s,r⟩:=h;exact⟨a,xs,e,s,bJ.bw hid l xs r⟩
 |.hd n,v,h=>by unfold RT at h ⊢;exact h
theorem bJ.bw {w:Wd}(hid:Hp):∀(l:List Tr) (xs:List V),bJ w l xs->bJ {w with hid:=hid} l xs
 |[],xs,h=>by unfold bJ at h ⊢;exact h
 |d::l,xs,h=>by
  unfold bJ at h ⊢
  obtain⟨x,r,e,h1,h2⟩:=h;exact⟨x,r,e,RT.bw hid d x h1,bJ.bw hid l r h2⟩
end
theorem bJ.nil {w:Wd}:bJ w [] []:=by unfold bJ;rfl
theorem bJ.cons {w:Wd}{t:Tr}{l:List Tr}{v:V}{xs:List V}(h:RT w t v)(r:bJ w l xs):bJ w (t::l) (v::xs):=by unfold bJ;exact⟨v,xs,rfl,h,r⟩
theorem bJ.bP {w:Wd}{xs:List V}(h:bJ w [] xs):xs=[]:=by unfold bJ at h;exact h
theorem bJ.aY {w:Wd}{t:Tr}{l:List Tr}{xs:List V}(h:bJ w (t::l) xs):∃x r,xs=x::r/\RT w t x/\bJ w l r:=by unfold bJ at h;exact h
theorem bJ.len {w:Wd}:∀{l:List Tr} {xs:List V},bJ w l xs->xs.length=l.length
 |[],xs,h=>by rw[h.bP];rfl
 |d::l,xs,h=>by
  obtain⟨x,r,rfl,_,h2⟩:=h.aY;simp[bJ.len h2]
theorem bJ.get {w:Wd}:∀{l:List Tr} {xs:List V} {i:Nat} {t:Tr},bJ w l xs->l[i]? = some t->∃v,xs[i]? = some v/\RT w t v
 |[],xs,i,t,h,e=>by simp at e
 |d::l,xs,i,t,h,e=>by
  obtain⟨x,r,rfl,h1,h2⟩:=h.aY;cases i with
  |zero=>simp at e;subst e;exact⟨x,rfl,h1⟩
  |succ i=>simpa using bJ.get (i:=i) h2 (by simpa using e)
theorem bJ.rJ {w:Wd}:∀{l m:List Tr} {xs ys:List V},bJ w l xs->bJ w m ys->bJ w (l++m) (xs++ys)
 |[],m,xs,ys,h,g=>by rw[h.bP];exact g
 |d::l,m,xs,ys,h,g=>by
  obtain⟨x,r,rfl,h1,h2⟩:=h.aY;exact .cons h1 (bJ.rJ h2 g)
theorem bJ.set {w:Wd}{t:Tr}{v:V}(ht:RT w t v):∀{l:List Tr} {xs:List V} (i:Nat),bJ w l xs->bJ w (l.set i t) (xs.set i v)
 |[],xs,i,h=>by rw[h.bP];exact .nil
 |d::l,xs,i,h=>by
  obtain⟨x,r,rfl,h1,h2⟩:=h.aY;cases i with
  |zero=>exact .cons ht h2
  |succ i=>exact .cons h1 (bJ.set ht i h2)
theorem bJ.take {w:Wd}:∀{l:List Tr} {xs:List V} (n:Nat),bJ w l xs->bJ w (l.take n) (xs.take n)
 |[],xs,n,h=>by rw[h.bP];simp;exact .nil
 |d::l,xs,0,h=>by simp;exact .nil
 |d::l,xs,n+1,h=>by
  obtain⟨x,r,rfl,h1,h2⟩:=h.aY;exact .cons h1 (bJ.take n h2)
theorem bJ.drop {w:Wd}:∀{l:List Tr} {xs:List V} (n:Nat),bJ w l xs->bJ w (l.drop n) (xs.drop n)
 |[],xs,n,h=>by rw[h.bP];simp;exact .nil
 |d::l,xs,0,h=>h
 |d::l,xs,n+1,h=>by
  obtain⟨x,r,rfl,h1,h2⟩:=h.aY;exact bJ.drop n h2
theorem bJ.snoc {w:Wd}{l:List Tr}{xs:List V}{t:Tr}{v:V}(h:bJ w l xs)(g:RT w t v):bJ w (l++[t]) (xs++[v]):=h.rJ (.cons g .nil)
noncomputable def RK (w:Wd){α:Type}(l:List (α × Tr))(m:List (α × V)):Prop:=m.map Prod.fst=l.map Prod.fst/\bJ w (l.map Prod.snd) (m.map Prod.snd)
theorem RK.mono {w w':Wd}(le:w.le w'){α:Type}{l:List (α × Tr)}{m:List (α × V)}(h:RK w l m):RK w' l m:=⟨h.1,bJ.mono le _ _ h.2⟩
theorem RK.nil {w:Wd}{α:Type}:RK w ([]:List (α × Tr)) []:=⟨rfl,.nil⟩
theorem RK.cons {w:Wd}{α:Type}{k:α}{t:Tr}{v:V}{l:List (α × Tr)}{m:List (α × V)}(h:RT w t v)(r:RK w l m):RK w ((k,t)::l) ((k,v)::m):=⟨by simp[r.1],.cons h r.2⟩
theorem RK.aY {w:Wd}{α:Type}{k:α}{t:Tr}{l:List (α × Tr)}{m:List (α × V)}(h:RK w ((k,t)::l) m):∃v r,m=(k,v)::r/\RT w t v/\RK w l r:=by
 obtain⟨h1,h2⟩:=h;cases m with
 |nil=>simp at h1
 |cons p r =>
  obtain⟨q,v⟩:=p;simp only[zat,List.cons.injEq] at h1;obtain⟨x,r',e,g1,g2⟩:=h2.aY;simp only[zat,List.cons.injEq] at e;obtain⟨rfl,rfl⟩:=e;obtain⟨rfl,e2⟩:=h1;exact⟨v,r,rfl,g1,e2,g2⟩
theorem RK.bP {w:Wd}{α:Type}{m:List (α × V)}(h:RK w ([]:List (α × Tr)) m):m=[]:=by simpa using h.1
theorem RK.len {w:Wd}{α:Type}{l:List (α × Tr)}{m:List (α × V)}(h:RK w l m):m.length=l.length:=by simpa using congrArg List.length h.1
noncomputable def fu (S:Cs)(i:Nat):Prop:=∃c,S[i]? = some c/\c.fz=false
open Classical in
noncomputable def Fz (ρ:Nat->Addr)(hid:Hp)(S:Cs)(H:Hp):Hp:=λb=>if (∃i,fu S i /\ ρ i=b)\/hid b≠none then none else H b
structure Gx where
 K:W.Frag
 cl:Str->Addr
 E:XK
noncomputable def bE (G:Gx)(w:Wd)(H:Hp)(a:Addr):Ce->Prop
 |.ua=>True
 |.aM l=>∃xs,H a=some (.aM xs)/\bJ w l xs
 |.gS l=>∃aK,H a=some (.dK aK)/\RK w l aK
 |.fH c fs=>∃dx xq,H a=some (.fH (G.cl c) dx xq)/\RK w fs xq
 |.xm c fs=>∃T d xq,H a=some (t9 a (G.cl c) (some d) T)/\w.F T=some (TB T)/\w.F d=some (ED d xq)/\T≠a/\d≠a/\RK w fs xq
 |.i7 l=>∃aK,H a=some (.dT aK)/\RK w l aK
 |.xo l=>∃o aK,w.F a=some (.qw o (.dK aK))/\RK w l aK
 |.sG l=>∃o aK,w.F a=some (.qw o (.dT aK))/\RK w l aK
theorem bE.mono {G:Gx}{w w':Wd}(le:w.le w'){H H':Hp}{a:Addr}(hH:∀o,H a=some o->H' a=some o):∀{c:Ce},bE G w H a c->bE G w' H' a c
 |.ua,_=>trivial
 |.aM l,h=>let ⟨xs,e,r⟩:=h;⟨xs,hH _ e,bJ.mono le _ _ r⟩
 |.gS l,h=>let ⟨xs,e,r⟩:=h;⟨xs,hH _ e,r.mono le⟩
 |.fH c l,h=>let ⟨dx,xs,e,r⟩:=h;⟨dx,xs,hH _ e,r.mono le⟩
 |.xm c l,h=>let ⟨T,d,xs,e,e2,e3,n1,n2,r⟩:=h;⟨T,d,xs,hH _ e,le.F _ _ e2,le.F _ _ e3,n1,n2,r.mono le⟩
 |.i7 l,h=>let ⟨xs,e,r⟩:=h;⟨xs,hH _ e,r.mono le⟩
 |.xo l,h=>let ⟨o,xs,e,r⟩:=h;⟨o,xs,le.F _ _ e,r.mono le⟩
 |.sG l,h=>let ⟨o,xs,e,r⟩:=h;⟨o,xs,le.F _ _ e,r.mono le⟩
theorem bE.MG {G:Gx}{w w':Wd}(le:w.le w'){H H':Hp}{a:Addr}:∀{c:Ce},c.fz=true->bE G w H a c->bE G w' H' a c
 |.ua,_,_=>trivial
 |.xo l,_,h=>let ⟨o,xs,e,r⟩:=h;⟨o,xs,le.F _ _ e,r.mono le⟩
 |.sG l,_,h=>let ⟨o,xs,e,r⟩:=h;⟨o,xs,le.F _ _ e,r.mono le⟩
theorem RK.bw {w:Wd}(hid:Hp){α:Type}{l:List (α × Tr)}{m:List (α × V)}(h:RK w l m):RK {w with hid:=hid} l m:=⟨h.1,bJ.bw hid _ _ h.2⟩
theorem bE.bw {G:Gx}{w:Wd}{hid:Hp}{H H':Hp}{a:Addr}(hH:∀o,H a=some o->H' a=some o):∀{c:Ce},bE G w H a c->bE G {w with hid:=hid} H' a c
 |.ua,_=>trivial
 |.aM l,h=>let ⟨xs,e,r⟩:=h;⟨xs,hH _ e,bJ.bw hid _ _ r⟩
 |.gS l,h=>let ⟨xs,e,r⟩:=h;⟨xs,hH _ e,r.bw hid⟩
 |.fH c l,h=>let ⟨dx,xs,e,r⟩:=h;⟨dx,xs,hH _ e,r.bw hid⟩
 |.xm c l,h=>let ⟨T,d,xs,e,e2,e3,n1,n2,r⟩:=h;⟨T,d,xs,hH _ e,e2,e3,n1,n2,r.bw hid⟩
 |.i7 l,h=>let ⟨xs,e,r⟩:=h;⟨xs,hH _ e,r.bw hid⟩
 |.xo l,h=>let ⟨o,xs,e,r⟩:=h;⟨o,xs,e,r.bw hid⟩
 |.sG l,h=>let ⟨o,xs,e,r⟩:=h;⟨o,xs,e,r.bw hid⟩
theorem bE.JB {G:Gx}{w:Wd}{hid:Hp}{H H':Hp}{a:Addr}:∀{c:Ce},c.fz=true->bE G w H a c->bE G {w with hid:=hid} H' a c
 |.ua,_,_=>trivial
 |.xo l,_,h=>let ⟨o,xs,e,r⟩:=h;⟨o,xs,e,r.bw hid⟩
 |.sG l,_,h=>let ⟨o,xs,e,r⟩:=h;⟨o,xs,e,r.bw hid⟩
theorem bE.aaS {G:Gx}{w:Wd}{F' Sn:Hp}(hF:∀b o,w.F b=some o->F' b=some o){H:Hp}{a:Addr}{c:Ce}(h:bE G w H a c):bE G {w with hid:=Sn,F:=F' } H a c:=
 bE.mono (w:={w with hid:=Sn}) (w':={w with hid:=Sn,F:=F' }) ⟨rfl,zaf _,λ_ _=>rfl,hF,rfl⟩ (λ_ e=>e) (bE.bw (hid:=Sn) (λ_ e=>e) h)
theorem bE.some {G:Gx}{w:Wd}{H:Hp}{a:Addr}:∀{c:Ce},bE G w H a c->c.fz=false->∃o,H a=some o
 |.ua,_,n=>by cases n
 |.aM l,h,_=>let ⟨xs,e,r⟩:=h;⟨_,e⟩
 |.gS l,h,_=>let ⟨xs,e,r⟩:=h;⟨_,e⟩
 |.fH c l,h,_=>let ⟨dx,xs,e,r⟩:=h;⟨_,e⟩
 |.xm c l,h,_=>let ⟨T,d,xs,e,_⟩:=h;⟨_,e⟩
 |.i7 l,h,_=>let ⟨xs,e,r⟩:=h;⟨_,e⟩
 |.xo l,_,n=>by cases n
 |.sG l,_,n=>by cases n
structure HR (G:Gx) (w:Wd) (S:Cs) (H:Hp):Prop where
 K:w.K=G.K
 n:w.n=S.length
 F:w.F=Fz w.ρ w.hid S H
 cell:∀i c,S[i]? = some c->bE G w H (w.ρ i) c
 inj:∀i j,fu S i->fu S j->w.ρ i=w.ρ j->i=j
 hid:∀b o,w.hid b=some o->H b=some o
 ko:∀i,fu S i->w.hid (w.ρ i)=none
 hl:∀b xs,w.hid b≠some (.fP xs)
theorem HR.sub (h:HR G w S H):∀b o,w.F b=some o->H b=some o:=λb o e=>by
 rw[h.F] at e;unfold Fz at e;split at e
 ·cases e
 ·exact e
theorem HR.sqL (h:HR G w S H){a:Addr}{xs:List V}(s:jC w.K w.F a xs):jC G.K H a xs:=by rw[<-h.K];exact s.mono h.sub
theorem HR.sqT (h:HR G w S H){a:Addr}{xs:List V}(s:nJ w.K w.F a xs):nJ G.K H a xs:=by rw[<-h.K];exact s.mono h.sub
theorem HR.live (h:HR G w S H){i:Nat}(l:fu S i):∃o,H (w.ρ i)=some o:=by
 obtain⟨c,e,n⟩:=l;exact (h.cell i c e).some n
theorem HR.GX (h:HR G w S H){p:Addr}(hp:H p=none):w.hid p=none:=by
 cases e:w.hid p with
 |none=>rfl
 |some o=>rw[h.hid p o e] at hp;cases hp
theorem HR.free (h:HR G w S H){p:Addr}(hp:H p=none):¬ ((∃i,fu S i/\w.ρ i=p)\/w.hid p≠none):=by
 rintro (⟨i,l,rfl⟩|z)
 ·obtain⟨o,e⟩:=h.live l
  rw[hp] at e;cases e
 ·exact z (h.GX hp)
theorem HR.MH (h:HR G w S H){p:Addr}(hp:H p=none):w.F p=none:=by rw[h.F];unfold Fz;rw[if_neg (h.free hp)];exact hp
theorem z8 {hid:Hp}{H:Hp}{p:Addr}{o:HO}(h:∀b o,hid b=some o->H b=some o)(hp:hid p=none):∀b u,hid b=some u->bu H p o b=some u:=λb u e=>by
 rw[av λz=>by subst z;rw[hp] at e;cases e]
 exact h b u e
theorem MJ {hid:Hp}{p:Addr}{o:HO}(h:∀b xs,hid b≠some (.fP xs))(ho:∀xs,o ≠ .fP xs):∀b xs,bu hid p o b≠some (.fP xs):=λb xs e=>by
 by_cases hb:b=p
 ·subst hb;rw[au] at e;cases e;exact ho _ rfl
 ·rw[av hb] at e;exact h b xs e
theorem HR.lay (h:HR G w S H){p:Addr}(hp:H p=none)(o:HO):HR G {w with F:=bu w.F p o} S (bu H p o)/\w.le {w with F:=bu w.F p o}:=by
 have hn:=h.free hp;have hF:=h.MH hp;have le:w.le {w with F:=bu w.F p o}:=⟨rfl,zaf _,λ_ _=>rfl,λb u e=>k9 hF e,rfl⟩
 refine⟨⟨h.K,h.n,?_,λi c e=>(h.cell i c e).mono le λu eu=>k9 hp eu,h.inj,z8 h.hid (h.GX hp),h.ko,h.hl⟩,le⟩
 show bu w.F p o=Fz w.ρ w.hid S (bu H p o)
 rw[h.F];funext b
 by_cases hb:b=p
 ·subst hb
  rw[au];unfold Fz;rw[if_neg hn,au]
 ·rw[av hb]
  unfold Fz;rw[av hb]
theorem yk {c:Ce}(hc:c.fz=false):∀i,fu (S++[c]) i↔fu S i\/i=S.length:=λi=>by
  constructor
  ·rintro⟨d,e,n⟩
   by_cases hi:i<S.length
   ·rw[zaj hi] at e;exact .inl ⟨d,e,n⟩
   ·rw[zau (by omega)] at e
    have:i - S.length<1:=by
     have:=(zae.mp e).1
     simpa using this
    exact .inr (by omega)
  ·rintro (⟨d,e,n⟩|rfl)
   ·exact⟨d,by rw[zaj (zae.mp e).1];exact e,n⟩
   ·exact⟨c,by simp,hc⟩
theorem fu.lt {i:Nat}(l:fu S i):i<S.length:=let ⟨_,e,_⟩:=l;(zae.mp e).1
noncomputable def Wd.up (w:Wd)(p:Addr):Wd:={w with n:=w.n+1,ρ:= λi=>if i=w.n then p else w.ρ i}
theorem Wd.uc (w:Wd)(p:Addr):w.le (w.up p):=⟨rfl,zbE _,λi hi=>by show (if i=w.n then p else w.ρ i)=_;rw[if_neg (by omega)],λb u e=>e,rfl⟩
theorem HR.ahs (h:HR G w S H){p:Addr}{H':Hp}{c:Ce}(hc:c.fz=false)(DU:∀i,fu S i->w.ρ i≠p)(hH:∀b,b≠p->H' b=H b)(hF:w.F p=none)(hh:w.hid p=none)
  (ok:bE G (w.up p) H' p c):HR G (w.up p) (S++[c]) H':=by
 have lv:=yk (S:=S) hc
 have le:=w.uc p;have iI:∀i,i<S.length->(w.up p).ρ i=w.ρ i:=λi hi=>le.r i (by rw[h.n];exact hi)
 have qK:(w.up p).ρ S.length=p:=by show (if S.length=w.n then p else w.ρ S.length)=p;rw[if_pos h.n.symm]
 refine⟨h.K,by show w.n+1=_;simp[h.n],?_,λi d e=>?_,λi j li lj e=>?_,λb o e=>?_,λi li=>?_,h.hl⟩
 ·show w.F=Fz (w.up p).ρ w.hid (S++[c]) H'
  rw[h.F];funext b
  unfold Fz;by_cases hb:b=p
  ·subst hb
   rw[h.F] at hF;unfold Fz at hF;rw[hF,if_pos (.inl ⟨S.length,(lv _).mpr (.inr rfl),qK⟩)]
  ·rw[hH b hb]
   have V6:(∃i,fu (S++[c]) i/\(w.up p).ρ i=b)↔∃i,fu S i/\w.ρ i=b:=by
    constructor
    ·rintro⟨i,li,e⟩
     rcases (lv i).mp li with l|rfl
     ·rw[iI i l.lt] at e
      exact⟨i,l,e⟩
     ·rw[qK] at e;exact absurd e.symm hb
    ·rintro⟨i,l,e⟩
     exact⟨i,(lv i).mpr (.inl l),by rw[iI i l.lt];exact e⟩
   by_cases hx:(∃i,fu S i/\w.ρ i=b)\/w.hid b≠none
   ·rw[if_pos hx,if_pos (hx.imp V6.mpr λz=>z)]
   ·rw[if_neg hx,if_neg (λz=>hx (z.imp V6.mp λz=>z))]
 ·by_cases hi:i<S.length
  ·rw[zaj hi] at e
   rw[iI i hi];cases hd:d.fz with
   |true=>exact bE.MG le hd (h.cell i d e)
   |false=>exact (h.cell i d e).mono le λu eu=>by rw[hH _ (DU i ⟨d,e,hd⟩)];exact eu
  ·rw[zau (by omega)] at e
   have h0:i - S.length<1:=by simpa using (zae.mp e).1
   have h1:i=S.length:=by omega
   subst h1;simp at e
   subst e;rw[qK];exact ok
 ·rcases (lv i).mp li with l|rfl
  ·rcases (lv j).mp lj with l' | rfl
   ·rw[iI i l.lt,iI j l'.lt] at e
    exact h.inj i j l l' e
   ·rw[iI i l.lt,qK] at e
    exact absurd e (DU i l)
  ·rcases (lv j).mp lj with l' | rfl
   ·rw[qK,iI j l'.lt] at e
    exact absurd e.symm (DU j l')
   ·rfl
 ·have e2:w.hid b=some o:=e
  rw[hH b λz=>by subst z;rw[hh] at e2;cases e2]
  exact h.hid b o e2
 ·show w.hid _=none
  rcases (lv i).mp li with l|rfl
  ·rw[iI i l.lt];exact h.ko i l
  ·rw[qK];exact hh
theorem HR.MK (h:HR G w S H){p:Addr}(hp:H p=none):∀i,fu S i->w.ρ i≠p:=λi l z=>h.free hp (.inl ⟨i,l,z⟩)
theorem HR.EW (h:HR G w S H){p:Addr}(hp:H p=none){o:HO}{c:Ce}(hc:c.fz=false)(ok:bE G (w.up p) (bu H p o) p c):HR G (w.up p) (S++[c]) (bu H p o)/\w.le (w.up p):=
 ⟨h.ahs hc (h.MK hp) (λb hb=>av hb) (h.MH hp) (h.GX hp) ok,w.uc p⟩
theorem HR.zD (h:HR G w S H){i:Nat}{c c':Ce}(e:S[i]? = some c)(hc:c.fz=false)(Q4:c'.fz=false){o:HO}(ok:bE G w (bu H (w.ρ i) o) (w.ρ i) c'):HR G w (S.set i c') (bu H (w.ρ i) o):=by
 have hi:=(zae.mp e).1
 have lv:∀j,fu (S.set i c') j↔fu S j:=λj=>by
  unfold fu;by_cases hj:i=j
  ·subst hj
   rw[zaI hi];exact⟨λ_=>⟨c,e,hc⟩,λ_=>⟨c',rfl,Q4⟩⟩
  ·rw[zay hj]
 have li:fu S i:=⟨c,e,hc⟩
 refine⟨h.K,by simp[h.n],?_,λj d ej=>?_,λa b la lb=>h.inj a b ((lv a).mp la) ((lv b).mp lb),z8 h.hid (h.ko i li),λj lj=>h.ko j ((lv j).mp lj),h.hl⟩
 ·rw[h.F]
  funext b
  unfold Fz;by_cases hn:(∃i,fu S i/\w.ρ i=b)\/w.hid b≠none
  ·rw[if_pos hn,if_pos (hn.imp (λz=>z.imp λj hj=>⟨(lv j).mpr hj.1,hj.2⟩) λz=>z)]
  ·rw[if_neg hn,if_neg (λz=>hn (z.imp (λz=>z.imp λj hj=>⟨(lv j).mp hj.1,hj.2⟩) λz=>z)),av λz=>hn (.inl ⟨i,⟨c,e,hc⟩,z.symm⟩)]
 ·by_cases hj:i=j
  ·subst hj
   rw[zaI hi] at ej;cases ej;exact ok
  ·rw[zay hj] at ej
   cases hd:d.fz with
   |true=>exact bE.MG (Wd.le.refl w) hd (h.cell j d ej)
   |false =>
    refine (h.cell j d ej).mono (Wd.le.refl w) λu eu=>?_
    rw[av λz=>hj (h.inj i j ⟨c,e,hc⟩ ⟨d,ej,hd⟩ z.symm)]
    exact eu
theorem HR.amI (h:HR G w S H){p:Addr}(hp:H p=none)(o:HO)(ho:∀xs,o ≠ .fP xs):HR G {w with hid:=bu w.hid p o} S (bu H p o):=by
 have hn:=h.free hp;have wi:∀{t:Tr} {v:V},RT w t v->RT {w with hid:=bu w.hid p o} t v:=λ{t v} r=>RT.bw _ t v r
 refine⟨h.K,h.n,?_,λi c e=>(h.cell i c e).bw λu eu=>k9 hp eu,h.inj,λb u e=>?_,λi l=>?_,MJ h.hl ho⟩
 ·show w.F=Fz w.ρ (bu w.hid p o) S (bu H p o)
  rw[h.F];funext b
  unfold Fz;by_cases hb:b=p
  ·subst hb
   rw[if_neg hn,if_pos (.inr (by rw[au];simp)),hp]
  ·rw[av hb,av hb]
 ·have e:bu w.hid p o b=some u:=e
  by_cases hb:b=p
  ·subst hb;rw[au] at e ⊢;exact e
  ·rw[av hb] at e ⊢;exact h.hid b u e
 ·show bu w.hid p o _=none
  rw[av (h.MK hp i l)];exact h.ko i l
theorem HR.aaU (h:HR G w S H){p:Addr}{o:HO}(hp:w.hid p=some o)(o':HO)(ho:∀xs,o' ≠ .fP xs):HR G {w with hid:=bu w.hid p o' } S (bu H p o'):=by
 have DU:∀i,fu S i->w.ρ i≠p:=λi l z=>by have:=h.ko i l;rw[z,hp] at this;cases this
 refine⟨h.K,h.n,?_,λi c e=>?_,h.inj,λb u e=>?_,λi l=>?_,MJ h.hl ho⟩
 ·show w.F=Fz w.ρ (bu w.hid p o') S (bu H p o')
  rw[h.F];funext b
  unfold Fz;by_cases hb:b=p
  ·subst hb
   rw[if_pos (.inr (by rw[hp];simp)),if_pos (.inr (by rw[au];simp))]
  ·rw[av hb,av hb]
 ·cases hd:c.fz with
  |true=>exact bE.JB hd (h.cell i c e)
  |false=>exact (h.cell i c e).bw λu eu=>by rw[av (DU i ⟨c,e,hd⟩)];exact eu
 ·have e:bu w.hid p o' b=some u:=e
  by_cases hb:b=p
  ·subst hb;rw[au] at e ⊢;exact e
  ·rw[av hb] at e ⊢;exact h.hid b u e
 ·show bu w.hid p o' _=none
  rw[av (DU i l)];exact h.ko i l
theorem HR.aht (h:HR G w S H){p:Addr}{o:HO}{mw:Hp}(e0:w.hid=bu mw p o)(hp0:mw p=none):HR G {w with hid:=mw,F:=bu w.F p o} S H:=by
 have hp:w.hid p=some o:=by rw[e0];exact au
 have hH:H p=some o:=h.hid p o hp
 have DU:∀i,fu S i->w.ρ i≠p:=λi l z=>by have:=h.ko i l;rw[z,hp] at this;cases this
 have hF:w.F p=none:=by rw[h.F];unfold Fz;rw[if_pos (.inr (by rw[hp];simp))]
 refine⟨h.K,h.n,?_,λi c e=>?_,h.inj,λb u e=>?_,λi l=>?_,λb xs (e:mw b=_)=>h.hl b xs (by rw[e0,av λz=>by rw[z,hp0] at e;cases e];exact e)⟩
 ·show bu w.F p o=Fz w.ρ mw S H
  rw[h.F];funext b
  unfold Fz;by_cases hb:b=p
  ·subst hb
   rw[au,if_neg,hH];rintro (⟨i,l,z⟩|z)
   ·exact DU i l z
   ·exact z hp0
  ·rw[av hb,e0,av hb]
 ·exact bE.aaS (λb u e=>k9 hF e) (h.cell i c e)
 ·have e2:mw b=some u:=e
  have nb:b≠p:=λz=>by rw[z,hp0] at e2;cases e2
  exact h.hid b u (by rw[e0,av nb];exact e2)
 ·have:=h.ko i l
  rw[e0,av (DU i l)] at this;exact this
theorem HR.So (h:HR G w S H){p:Addr}{o:HO}{mw:Hp}(e0:w.hid=bu mw p o)(hp0:mw p=none){c:Ce}(hc:c.fz=false)(ok:bE G ({w with hid:=mw}.up p) H p c):HR G ({w with hid:=mw}.up p) (S++[c]) H:=by
 have hp:w.hid p=some o:=by rw[e0];exact au
 have DU:∀i,fu S i->w.ρ i≠p:=λi l z=>by have:=h.ko i l;rw[z,hp] at this;cases this
 have lv:=yk (S:=S) hc
 have le:=({w with hid:=mw}:Wd).uc p
 have iI:∀i,i<S.length->(if i=w.n then p else w.ρ i)=w.ρ i:=λi hi=>by rw[if_neg (by rw[h.n];omega)]
 have qK:(if S.length=w.n then p else w.ρ S.length)=p:=by rw[if_pos h.n.symm]
 refine⟨h.K,by show w.n+1=_;simp[h.n],?_,λi d e=>?_,λi j li lj e=>?_,λb u e=>?_,λi li=>?_,λb xs (e:mw b=_)=>h.hl b xs (by rw[e0,av λz=>by rw[z,hp0] at e;cases e];exact e)⟩
 ·show w.F=Fz (λi=>if i=w.n then p else w.ρ i) mw (S++[c]) H
  rw[h.F];funext b
  unfold Fz;by_cases hb:b=p
  ·subst hb
   rw[if_pos (.inr (by rw[hp];simp)),if_pos (.inl ⟨S.length,(lv _).mpr (.inr rfl),qK⟩)]
  ·have V6:(∃i,fu (S++[c]) i/\(if i=w.n then p else w.ρ i)=b)↔∃i,fu S i/\w.ρ i=b:=by
    constructor
    ·rintro⟨i,li,e⟩
     rcases (lv i).mp li with l|rfl
     ·rw[iI i l.lt] at e
      exact⟨i,l,e⟩
     ·rw[qK] at e;exact absurd e.symm hb
    ·rintro⟨i,l,e⟩
     exact⟨i,(lv i).mpr (.inl l),by rw[iI i l.lt];exact e⟩
   have eh:w.hid b=mw b:=by rw[e0,av hb]
   by_cases hx:(∃i,fu S i/\w.ρ i=b)\/w.hid b≠none
   ·rw[if_pos hx,if_pos (hx.imp V6.mpr λz=>by rw[<-eh];exact z)]
   ·rw[if_neg hx,if_neg (λz=>hx (z.imp V6.mp λz=>by rw[eh];exact z))]
 ·by_cases hi:i<S.length
  ·rw[zaj hi] at e
   show bE G _ H (if i=w.n then p else w.ρ i) d
   rw[iI i hi];exact ((h.cell i d e).bw (hid:=mw) λu eu=>eu).mono le λu eu=>eu
  ·rw[zau (by omega)] at e
   have h0:i - S.length<1:=by simpa using (zae.mp e).1
   have h1:i=S.length:=by omega
   subst h1;simp at e
   subst e;show bE G _ H (if S.length=w.n then p else w.ρ S.length) c
   rw[qK];exact ok
 ·have e:(if i=w.n then p else w.ρ i)=(if j=w.n then p else w.ρ j):=e
  rcases (lv i).mp li with l|rfl
  ·rcases (lv j).mp lj with l' | rfl
   ·rw[iI i l.lt,iI j l'.lt] at e
    exact h.inj i j l l' e
   ·rw[iI i l.lt,qK] at e
    exact absurd e (DU i l)
  ·rcases (lv j).mp lj with l' | rfl
   ·rw[qK,iI j l'.lt] at e
    exact absurd e.symm (DU j l')
   ·rfl
 ·have e2:mw b=some u:=e
  have nb:b≠p:=λz=>by rw[z,hp0] at e2;cases e2
  exact h.hid b u (by rw[e0,av nb];exact e2)
 ·show mw (if i=w.n then p else w.ρ i)=none
  rcases (lv i).mp li with l|rfl
  ·rw[iI i l.lt]
   have:=h.ko i l
   rw[e0,av (DU i l)] at this;exact this
  ·rw[qK];exact hp0
theorem aaW {ρ:Nat->Addr}{hid:Hp}{m:Nat}:∀b o,Fz ρ hid S H b=some o->Fz ρ hid (S.take m) H b=some o:=λb o e=>by
 unfold Fz at e ⊢
 split at e
 ·cases e
 ·rename_i hn
  rw[if_neg]
  ·exact e
  ·rintro (⟨i,⟨c,ei,n⟩,r⟩|z)
   ·have hi:=(zae.mp ei).1
    rw[zaG] at hi;rw[zbK (by omega)] at ei
    exact hn (.inl ⟨i,⟨c,ei,n⟩,r⟩)
   ·exact hn (.inr z)
theorem HR.cut (h:HR G w S H){m:Nat}(hm:m<=S.length)(hb:∀i c,(S.take m)[i]? = some c->bE G {w with n:=m,F:=Fz w.ρ w.hid (S.take m) H} H (w.ρ i) c):HR G {w with n:=m,F:=Fz w.ρ w.hid (S.take m) H} (S.take m) H:=by
 have lv:∀i,fu (S.take m) i->fu S i:=λi ⟨c,e,n⟩=>⟨c,by
  have hi:=(zae.mp e).1
  rw[zaG] at hi;rw[zbK (by omega)] at e
  exact e,n⟩
 exact⟨h.K,by simp;omega,rfl,hb,λi j li lj e=>h.inj i j (lv i li) (lv j lj) e,h.hid,λi l=>h.ko i (lv i l),h.hl⟩
inductive R (α:Type) where
 |ok (a:α) (s:Cs)|ex (n:Nat) (s:Cs)|aA
noncomputable def R.az {α β:Type}(r:R α)(k:α -> Cs->R β):R β:= match r with|.ok a s=>k a s|.ex n s=>.ex n s|.aA=>.aA
theorem R.d7 {α β:Type}(a:α)(s:Cs)(k:α -> Cs->R β):(R.ok a s).az k=k a s:=rfl
theorem R.z9 {α β:Type}(k:α -> Cs->R β):(R.aA:R α).az k = .aA:=rfl
noncomputable def xu {α:Type}(c:Prop)(a b:α):α:= @ite α c (Classical.propDecidable c) a b
theorem z_ {α:Type}{c:Prop}(h:c)(a b:α):xu c a b=a:=by unfold xu;rw[if_pos h]
theorem ahu {α:Type}(a b:α):xu True a b=a:=z_ trivial a b
inductive RS where
 |nx (τ:List (Option Tr)) (s:Cs)|rt (t:Tr) (s:Cs)|bk (τ:List (Option Tr)) (s:Cs)|ct (τ:List (Option Tr)) (s:Cs)|ex (n:Nat) (s:Cs)|aA
noncomputable abbrev En:=List (Option Tr)
noncomputable abbrev Em:=En->Cs->R Tr
noncomputable abbrev Sm:=En->Cs->RS
structure Sl (w:Wd) (τ:En) (σ:St):Prop where
 len:τ.length=σ.length
 tM:∀(i:Nat) (t:Tr),τ[i]? = some (some t)->∃v,σ[i]? = some (some v)/\RT w t v
theorem Sl.mono {w w':Wd}(le:w.le w'){τ:En}{σ:St}(h:Sl w τ σ):Sl w' τ σ:= ⟨h.len,λi t e=>let ⟨v,e2,r⟩:=h.tM i t e;⟨v,e2,RT.mono le t v r⟩⟩
theorem Sl.set (h:Sl w τ σ)(i:Nat)(r:RT w t v):Sl w (τ.set i (some t)) (σ.set i (some v)):=by
 refine⟨by simp[h.len],λj u e=>?_⟩
 by_cases hj:i=j
 ·subst hj
  have hi:i<τ.length:=by
   have:=(zae.mp e).1
   simpa using this
  rw[zaI hi] at e;cases e;exact⟨v,by rw[zaI (by rw[<-h.len];exact hi)],r⟩
 ·rw[zay hj] at e
  rw[zay hj];exact h.tM j u e
noncomputable def ud (G:Gx)(w:Wd)(n:Nat)(S':Cs):Prop:=∃c fs,S'[n]? = some (.xm c fs)/\∀w' H',w.le w'->HR G w' S' H'->G.E (.ref (G.cl c)) (some (w'.ρ n)) H'
theorem ud.mono {G:Gx}{w w1:Wd}(le:w.le w1){n:Nat}{S:Cs}(h:ud G w n S):ud G w1 n S:=let ⟨c,fs,e,k⟩:=h;⟨c,fs,e,λw' H' l hr=>k w' H' (le.trans l) hr⟩
noncomputable def aV {α β:Type}(jJ:Wd -> α -> β -> Prop)(G:Gx)(w:Wd)(r:R α)(Q:β -> Hp->Prop):Prop:=match r with
 |.ok a S'=>∀w' H' b,w.le w'->HR G w' S' H'->jJ w' a b->Q b H'
 |.ex n S'=>ud G w n S'
 |.aA=>False
theorem aV.mono {α β:Type}{jJ:Wd -> α -> β -> Prop}{G:Gx}{w:Wd}{r:R α}{Q Q' : β -> Hp->Prop}(h:aV jJ G w r Q)(k:∀b H,Q b H->Q' b H):aV jJ G w r Q':=by
 cases r with
 |ok a S=>exact λw' H' b le hr rl=>k _ _ (h w' H' b le hr rl)
 |ex n S=>exact h
 |aA=>exact h
theorem aV.wd {α β:Type}{jJ:Wd -> α -> β -> Prop}{G:Gx}{w w1:Wd}(le:w.le w1){r:R α}{Q:β -> Hp->Prop}(h:aV jJ G w r Q):aV jJ G w1 r Q:=by
 cases r with
 |ok a S=>exact λw' H' b l hr rl=>h w' H' b (le.trans l) hr rl
 |ex n S=>exact ud.mono le h
 |aA=>exact h
theorem aV.az {α β γ δ:Type}{jJ:Wd -> α -> β -> Prop}{ahv:Wd -> γ -> δ -> Prop}{G:Gx}{w:Wd}{r:R α}{k:α -> Cs->R γ}{Q:δ -> Hp->Prop}(h:aV ahv G w (r.az k) Q):
  aV jJ G w r (λb H1=>∃w1 S1 a,w.le w1/\HR G w1 S1 H1/\jJ w1 a b/\r = .ok a S1/\aV ahv G w1 (k a S1) Q):=by
 cases r with
 |ok a S=>exact λw' H' b le hr rl=>⟨w',S,a,le,hr,rl,rfl,aV.wd le h⟩
 |ex n S=>exact h
 |aA=>exact h
noncomputable def bV (G:Gx)(w:Wd)(r:RS)(D:Bf):Prop:=match r with
 |.nx τ S'=>∀w' H' fm,w.le w'->HR G w' S' H'->Sl w' τ fm->D.nx fm H'
 |.bk τ S'=>∀w' H' fm,w.le w'->HR G w' S' H'->Sl w' τ fm->D.bk fm H'
 |.ct τ S'=>∀w' H' fm,w.le w'->HR G w' S' H'->Sl w' τ fm->D.ct fm H'
 |.rt t S'=>∀w' H' v,w.le w'->HR G w' S' H'->RT w' t v->D.rt v H'
 |.ex n S'=>ud G w n S'
 |.aA=>False
theorem bV.wd {G:Gx}{w w1:Wd}(le:w.le w1){r:RS}{D:Bf}(h:bV G w r D):bV G w1 r D:=by
 cases r with
 |nx τ S=>exact λw' H' b l hr rl=>h w' H' b (le.trans l) hr rl
 |bk τ S=>exact λw' H' b l hr rl=>h w' H' b (le.trans l) hr rl
 |ct τ S=>exact λw' H' b l hr rl=>h w' H' b (le.trans l) hr rl
 |rt τ S=>exact λw' H' b l hr rl=>h w' H' b (le.trans l) hr rl
 |ex n S=>exact ud.mono le h
 |aA=>exact h
noncomputable def R.bQ {α:Type}(r:R α)(k:α -> Cs->RS):RS:=match r with|.ok a s=>k a s|.ex n s=>.ex n s|.aA=>.aA
theorem R.gG {α:Type}(a:α)(s:Cs)(k:α -> Cs->RS):(R.ok a s).bQ k=k a s:=rfl
theorem R.Sq {α:Type}(n:Nat)(s:Cs)(k:α -> Cs->RS):(R.ex n s:R α).bQ k = .ex n s:=rfl
theorem R.BO {α:Type}(k:α -> Cs->RS):(R.aA:R α).bQ k = .aA:=rfl
theorem bV.az {α β:Type}{jJ:Wd -> α -> β -> Prop}{G:Gx}{w:Wd}{r:R α}{k:α -> Cs->RS}{D:Bf}(h:bV G w (r.bQ k) D):
  aV jJ G w r (λb H1=>∃w1 S1 a,w.le w1/\HR G w1 S1 H1/\jJ w1 a b/\r = .ok a S1/\bV G w1 (k a S1) D):=by
 cases r with
 |ok a S=>exact λw' H' b le hr rl=>⟨w',S,a,le,hr,rl,rfl,bV.wd le h⟩
 |ex n S=>exact h
 |aA=>exact h
structure jU (G:Gx) (k:Nat) (X:Cx):Prop where
 K:X.K=G.K
 fL:0<k->X.fL=true
 room:0<k->gV k X.A
 un:X.A.units+200<cLine
theorem jU.hu (o:jU G k X):X.A.units+100<cLine:=by have:=o.un;omega
theorem jU.Ss (o:jU G k X):X.A.units+1<cLine:=by have:=o.hu;omega
noncomputable def dY (G:Gx)(f:Em):TE:=λσ H Q=>∃w S τ,HR G w S H/\Sl w τ σ /\ aV RT G w (f τ S) Q
noncomputable def BP (G:Gx)(f:En->Cs->R Bool):TT:=λσ H Q=>∃w S τ,HR G w S H/\Sl w τ σ /\ aV (λ_ a b=>a=b) G w (f τ S) Q
noncomputable def EX (G:Gx)(f:En->Cs->R (List Tr)):TA:=λσ H Q=>∃w S τ,HR G w S H/\Sl w τ σ /\ aV bJ G w (f τ S) Q
noncomputable def ML (G:Gx)(f:Sm):TS:=λD σ H=>∃w S τ,HR G w S H/\Sl w τ σ /\ bV G w (f τ S) D
noncomputable def aaX (G:Gx)(f:Tr->En->Cs->R En):TG:=λv σ H Q=>∃w S τ t,HR G w S H/\Sl w τ σ /\ RT w t v/\aV Sl G w (f t τ S) Q
structure TV (G:Gx) (k:Nat) (X:Cx) (e:Expr) (f:Em):Prop where
 kW:jU G k X->PE X e (dY G f)
noncomputable instance {G:Gx}{k:Nat}{X:Cx}{e:Expr}{f:Em}:CoeFun (TV G k X e f) (λ_=>jU G k X->PE X e (dY G f)):=⟨TV.kW⟩
structure BQ (G:Gx) (k:Nat) (X:Cx) (e:Expr) (f:En->Cs->R Bool):Prop where
 kW:jU G k X->PT X e (BP G f)
noncomputable instance {G:Gx}{k:Nat}{X:Cx}{e:Expr}{f:En->Cs->R Bool}:CoeFun (BQ G k X e f) (λ_=>jU G k X->PT X e (BP G f)):=⟨BQ.kW⟩
structure K8 (G:Gx) (k:Nat) (X:Cx) (e:Expr) (f:En->Cs->R Bool):Prop where
 kW:jU G k X->PW X e (BP G f)
noncomputable instance {G:Gx}{k:Nat}{X:Cx}{e:Expr}{f:En->Cs->R Bool}:CoeFun (K8 G k X e f) (λ_=>jU G k X->PW X e (BP G f)):=⟨K8.kW⟩
structure xw (G:Gx) (k:Nat) (X:Cx) (es:List Expr) (f:En->Cs->R (List Tr)):Prop where
 kW:jU G k X->PA X es (EX G f)
noncomputable instance {G:Gx}{k:Nat}{X:Cx}{es:List Expr}{f:En->Cs->R (List Tr)}:CoeFun (xw G k X es f) (λ_=>jU G k X->PA X es (EX G f)):=⟨xw.kW⟩
structure xx (G:Gx) (k:Nat) (X:Cx) (st:Stmt) (f:Sm):Prop where
 kW:jU G k X->PS X st (ML G f)
noncomputable instance {G:Gx}{k:Nat}{X:Cx}{st:Stmt}{f:Sm}:CoeFun (xx G k X st f) (λ_=>jU G k X->PS X st (ML G f)):=⟨xx.kW⟩
structure JC (G:Gx) (k:Nat) (X:Cx) (st:List Stmt) (f:Sm):Prop where
 kW:jU G k X->xQ X st (ML G f)
noncomputable instance {G:Gx}{k:Nat}{X:Cx}{st:List Stmt}{f:Sm}:CoeFun (JC G k X st f) (λ_=>jU G k X->xQ X st (ML G f)):=⟨JC.kW⟩
structure GY (G:Gx) (k:Nat) (X:Cx) (tg:Expr) (f:Tr->En->Cs->R En):Prop where
 kW:jU G k X->PG X tg (aaX G f)
noncomputable instance {G:Gx}{k:Nat}{X:Cx}{tg:Expr}{f:Tr->En->Cs->R En}:CoeFun (GY G k X tg f) (λ_=>jU G k X->PG X tg (aaX G f)):=⟨GY.kW⟩
section
variable {X:Cx}{e:Expr}{st:Stmt}{sts:List Stmt}{es:List Expr}
theorem PE.wk {t t':TE}(h:PE X e t)(g:∀ σ H Q,t' σ H Q->t σ H Q):PE X e t':=λah s σ H Q I q=>h ah s σ H Q I (g _ _ _ q)
theorem PT.wk {t t':TT}(h:PT X e t)(g:∀ σ H Q,t' σ H Q->t σ H Q):PT X e t':=λah s σ H Q I q=>h ah s σ H Q I (g _ _ _ q)
theorem PW.wk {t t':TT}(h:PW X e t)(g:∀ σ H Q,t' σ H Q->t σ H Q):PW X e t':=λwh ah s σ H Q I q=>h wh ah s σ H Q I (g _ _ _ q)
theorem PA.wk {t t':TA}(h:PA X es t)(g:∀ σ H Q,t' σ H Q->t σ H Q):PA X es t':=λpos ah s σ H Q I q=>h pos ah s σ H Q I (g _ _ _ q)
theorem PS.wk {t t':TS}(h:PS X st t)(g:∀D σ H,t' D σ H->t D σ H):PS X st t':=λah s σ H D I q=>h ah s σ H D I (g _ _ _ q)
theorem xQ.wk {t t':TS}(h:xQ X sts t)(g:∀D σ H,t' D σ H->t D σ H):xQ X sts t':=λah s σ H D I q=>h ah s σ H D I (g _ _ _ q)
theorem PG.wk {t t':TG}(h:PG X e t)(g:∀v σ H Q,t' v σ H Q->t v σ H Q):PG X e t':=λah s σ H v u Q I r q=>h ah s σ H v u Q I r (g _ _ _ _ q)
end
noncomputable def dS:Expr->Bool|.Starred _ _=>true|_=>false
noncomputable def dG:List Expr->Bool|[]=>true|e::r=>!dS e && dG r
theorem dH {e:Expr}{es:List Expr}{env:Env}(h:dS e=false):starEach (e::es) env=(false,eval e env)::starEach es env:=by
 cases e<;>first|rfl | (cases h;done)
theorem f7:∀{es:List Expr},dG es=true->(backTo pos (starEach es env)).any (·.1)=false
 |[],_=>rfl
 |e::es,h=>by
  have h:=zbk.mp (show (!dS e && dG es)=true from h)
  rw[dH (by simpa using h.1)]
  show (false || (backTo pos (starEach es env)).any (·.1))=false
  rw[f7 h.2];rfl
theorem BR:∀{es:List Expr},dG es=true->(backTo pos (starEach es env)).all (λx=>!x.1)=true
 |[],_=>rfl
 |e::es,h=>by
  have h:=zbk.mp (show (!dS e && dG es)=true from h)
  rw[dH (by simpa using h.1)]
  show (true && (backTo pos (starEach es env)).all (λx=>!x.1))=true
  rw[BR h.2];rfl
section
variable {G:Gx}{k:Nat}{X:Cx}{a b c:Expr}{fa fb fc:Em}{pos ahm:Pos}
noncomputable def aa (i:Nat):Em:=λτ S=>match τ[i]? with|some (some t)=>.ok t S|_=>.aA
noncomputable def mC (t:Tr):Em:=λ_ S=>.ok t S
theorem dw (i:Nat)(hN:X.N[i]? = some x:=by rfl)(hv:Vis X.env.scope x:=by first|exact Or.inl rfl|exact Or.inr (Or.inl rfl)|exact Or.inr (Or.inr rfl))(hd:(x == ("__debug__" : Str))=false:=by decide)
  (Bg:(x == ("__classdict__" : Str))=false:=by decide):TV G k X (.Name x pos) (aa i):=.mk<|λ_=>(Lj hN hv hd Bg).wk λσ H Q h=>by
 obtain⟨w,S,τ,hr,sl,q⟩:=h;unfold aa at q;split at q
 ·rename_i t e
  obtain⟨v,e2,r⟩:=sl.tM i t e;exact⟨v,e2,q w H v (.refl w) hr r⟩
 ·exact q.elim
theorem MM (h:PE X e (tC v))(r:∀w:Wd,w.K=G.K->RT w t v):TV G k X e (mC t):=.mk<|λ_=>h.wk λσ H Q h=>by
 obtain⟨w,S,τ,hr,sl,q⟩:=h;exact q w H v (.refl w) hr (r w hr.K)
theorem eV:RT w (.int i) (.int i):=by unfold RT;rfl
theorem k_:RT w (.str i) (.str i):=by unfold RT;rfl
theorem gr {w:Wd}{i:Bool}:RT w (.bl i) (.bl i):=by unfold RT;rfl
theorem qL:RT w .bz .bz:=by unfold RT;rfl
theorem aaY {i j pos}:TV G k X (.Constant (.int i) j pos) (mC (.int i)):=MM Zx λ_ _=>eV
theorem ym {i j pos}:TV G k X (.Constant (.bool i) j pos) (mC (.bl i)):=MM afZ λ_ _=>gr
theorem aaZ {i j pos}:TV G k X (.Constant (.str i) j pos) (mC (.str i)):=MM Zz λ_ _=>k_
theorem EY {j pos}:TV G k X (.Constant .none j pos) (mC .bz):=MM Zy λ_ _=>qL
theorem cg (hm:X.mg x=some (.int i tk))(hg:Gl X x:=by rfl)(hd:(x == ("__debug__" : Str))=false:=by decide):TV G k X (.Name x pos) (mC (.int i)):=MM (Q5 (v:=.int i) hg hm ⟨_,rfl⟩ hd) λ_ _=>eV
noncomputable def ai (g:Tr->Tr->Cs->R Tr)(fa fb:Em):Em:=λτ S=>(fa τ S).az λt1 S1=>(fb τ S1).az λt2 S2=>g t1 t2 S2
noncomputable def mUn (g:Tr->Cs->R Tr)(fa:Em):Em:=λτ S=>(fa τ S).az λt1 S1=>g t1 S1
noncomputable def r2 (G:Gx)(g:Tr->Tr->Cs->R Tr):R2:=λx y H Q=>∃w S t1 t2,HR G w S H/\RT w t1 x/\RT w t2 y/\aV RT G w (g t1 t2 S) Q
noncomputable def r1 (G:Gx)(g:Tr->Cs->R Tr):V->Hp->VK->Prop:=λx H Q=>∃w S t1,HR G w S H/\RT w t1 x/\aV RT G w (g t1 S) Q
theorem mZ {g:Tr->Tr->Cs->R Tr}{σ:St}{H:Hp}{Q:VK}(h:dY G (ai g fa fb) σ H Q):ZU (r2 G g) (dY G fa) (dY G fb) σ H Q:=by
 obtain⟨w,S,τ,hr,sl,q⟩:=h;refine⟨w,S,τ,hr,sl,(aV.az q).mono λx H1 b_=>?_⟩
 obtain⟨w1,S1,t1,cU,bH,r1,_,q1⟩:=b_;exact⟨w1,S1,τ,bH,sl.mono cU,(aV.az q1).mono λy H2 cX=>by obtain⟨w2,S2,t2,eB,dg,r2,_,q2⟩:=cX;exact⟨w2,S2,t1,t2,dg,RT.mono eB _ _ r1,r2,q2⟩⟩
structure om (G:Gx) (k:Nat) (f:Value->Value->Sem Value) (g:Tr->Tr->Cs->R Tr):Prop where
 kW:∀X:Cx,jU G k X->kQ X f (r2 G g)
noncomputable instance {G:Gx}{k:Nat}{f:Value->Value->Sem Value}{g:Tr->Tr->Cs->R Tr}:CoeFun (om G k f g) (λ_=>∀X:Cx,jU G k X->kQ X f (r2 G g)):=⟨om.kW⟩
theorem MN (ho:om G k (binaryOp op) g)(ha:TV G k X a fa)(hb:TV G k X b fb):TV G k X (.BinOp a op b pos) (ai g fa fb):=.mk<|λo =>
 (agg (ho X o) (ha o) (hb o)).wk λ_ _ _ h=>mZ h
theorem ahw {op:UnaryOp}{g:Tr->Cs->R Tr}(ho:∀X:Cx,jU G k X->UnR X (unaryOp op) (r1 G g))(ha:TV G k X a fa):TV G k X (.UnaryOp op a pos) (mUn g fa):=.mk<|λo =>
 (agh (ho X o) (ha o)).wk λσ H Q h=>by
  obtain⟨w,S,τ,hr,sl,q⟩:=h;exact⟨w,S,τ,hr,sl,(aV.az q).mono λx H1 dP=>by obtain⟨w1,S1,t1,cU,bH,r1,_,q1⟩:=dP;exact⟨w1,S1,t1,bH,r1,q1⟩⟩
theorem iJ (ho:om G k (compareOp op) g)(ha:TV G k X a fa)(hb:TV G k X b fb)(hm:behindInMarks op b=false):TV G k X (.Compare a [op] [b] pos) (ai g fa fb):=.mk<|λo =>
 (Rj (ho X o) (ha o) (hb o) hm).wk λ_ _ _ h=>mZ h
noncomputable def m_ (g g':Tr->Tr->Cs->R Tr)(fa fb fc:Em):Em:=λτ S=>(fa τ S).az λt1 S1=>(fb τ S1).az λt2 S2=>(g t1 t2 S2).az λz S3=>match z with
 |.bl true=>(fc τ S3).az λt3 S4=>g' t2 t3 S4
 |.bl false=>.ok (.bl false) S3
 |_=>.aA
theorem BS {g g':Tr->Tr->Cs->R Tr}{σ:St}{H:Hp}{Q:VK}(h:dY G (m_ g g' fa fb fc) σ H Q):Ej (r2 G g) (r2 G g') (dY G fa) (dY G fb) (dY G fc) σ H Q:=by
 obtain⟨w,S,τ,hr,sl,q⟩:=h;refine⟨w,S,τ,hr,sl,(aV.az q).mono λx H1 kg=>?_⟩
 obtain⟨w1,S1,t1,cU,bH,r1,_,q1⟩:=kg;refine⟨w1,S1,τ,bH,sl.mono cU,(aV.az q1).mono λy H2 iy=>?_⟩
 obtain⟨w2,S2,t2,eB,dg,r2,_,q2⟩:=iy;refine⟨w2,S2,t1,t2,dg,RT.mono eB _ _ r1,r2,(aV.az q2).mono λz H3 jj=>?_⟩
 obtain⟨w3,S3,t3,iK,mz,r3,_,q3⟩:=jj;split at q3
 ·unfold RT at r3
  subst r3;refine⟨true,rfl,BA ⟨w3,S3,τ,mz,(sl.mono cU).mono (eB.trans iK),(aV.az q3).mono λu H4 f6=>by obtain⟨w4,S4,t4,MO,GZ,r4,_,q4⟩:=f6;exact⟨w4,S4,t2,t4,GZ,RT.mono (iK.trans MO) _ _ r2,r4,q4⟩⟩⟩
 ·unfold RT at r3
  subst r3;exact⟨false,rfl,Bx (q3 w3 H3 _ (.refl _) mz gr)⟩
 ·exact q3.elim
theorem MP (ho:om G k (compareOp op) g)(wO:om G k (compareOp Lw) g')(ha:TV G k X a fa)(hb:TV G k X b fb)(hc:TV G k X c fc)(hm:lastMarks [op,Lw] [b,c]=false:=by with_unfolding_all rfl):
  TV G k X (.Compare a [op,Lw] [b,c] pos) (m_ g g' fa fb fc):=.mk<|λo=>(Lv (ho X o) (wO X o) (ha o) (hb o) (hc o) hm).wk λ_ _ _ h=>BS h
noncomputable def mB (f:Em):En->Cs->R Bool:=λτ S=>(f τ S).az λt S1=>match t with|.bl b=>.ok b S1|_=>.aA
theorem pN {f:Em}{σ:St}{H:Hp}{Q:Bool->Hp->Prop}(h:BP G (mB f) σ H Q):dY G f σ H λx H1=>∃c,x = .bl c/\Q c H1:=by
 obtain⟨w,S,τ,hr,sl,q⟩:=h;refine⟨w,S,τ,hr,sl,(aV.az q).mono λx H1 jk=>?_⟩
 obtain⟨w1,S1,t1,cU,bH,r1,_,q1⟩:=jk;split at q1
 ·unfold RT at r1
  subst r1;exact⟨_,rfl,q1 w1 H1 _ (.refl _) bH rfl⟩
 ·exact q1.elim
theorem ue (h:TV G k X e f)(he:∀tG,isTrue e X.env tG=(do let v <-tG;standAt e.pos;holding [v] (truthy v)):=by intro _;rfl):BQ G k X e (mB f):=.mk<|λo=>(ZC (h o) he).wk λ_ _ _ h=>pN h
theorem gH (ho:om G k (compareOp op) g)(ha:TV G k X a fa)(hb:TV G k X b fb)(hm:behindInMarks op b=false):BQ G k X (.Compare a [op] [b] pos) (mB (ai g fa fb)):=.mk<|λo =>
 (Rl (ho X o) (ha o) (hb o) hm).wk λ_ _ _ h=>mZ (pN h)
theorem BU (ho:om G k (compareOp op) g)(wO:om G k (compareOp Lw) g')(ha:TV G k X a fa)(hb:TV G k X b fb)(hc:TV G k X c fc)(hm:lastMarks [op,Lw] [b,c]=false:=by with_unfolding_all rfl):
  BQ G k X (.Compare a [op,Lw] [b,c] pos) (mB (m_ g g' fa fb fc)):=.mk<|λo=>(Lx (ho X o) (wO X o) (ha o) (hb o) (hc o) hm).wk λ_ _ _ h=>BS (pN h)
variable {ta tb:En->Cs->R Bool}{dm:List Expr}
noncomputable def mD (ta tb:En->Cs->R Bool):En->Cs->R Bool:=λτ S=>(ta τ S).az λx S1=>if x=true then tb τ S1 else .ok false S1
noncomputable def EZ (ta tb:En->Cs->R Bool):En->Cs->R Bool:=λτ S=>(ta τ S).az λx S1=>if x=true then .ok true S1 else tb τ S1
noncomputable def xy (ta:En->Cs->R Bool):En->Cs->R Bool:=λτ S=>(ta τ S).az λx S1=>.ok (!x) S1
theorem MQ (ha:BQ G k X a ta):BQ G k X (.UnaryOp .Not a pos) (xy ta):=.mk<|λo=>(ZF (ha o)).wk λσ H Q h=>by
 obtain⟨w,S,τ,hr,sl,q⟩:=h;refine⟨w,S,τ,hr,sl,(aV.az q).mono λx H1 BV=>?_⟩
 obtain⟨w1,S1,t1,cU,bH,r1,_,q1⟩:=BV;subst r1;exact q1 w1 H1 _ (.refl _) bH rfl
theorem Su (ha:BQ G k X a ta):K8 G k X (.BoolOp .And [a] pos) ta:=.mk<|λo=>Q7 (ha o)
theorem MR (ha:BQ G k X a ta):K8 G k X (.BoolOp .Or [a] pos) ta:=.mk<|λo=>ZD (ha o)
theorem aa1 (ha:BQ G k X a ta)(hb:K8 G k X (.BoolOp .And (b::dm) pos) tb):K8 G k X (.BoolOp .And (a::b::dm) pos) (mD ta tb):=.mk<|λo=>(ZE (ha o) (hb o)).wk λσ H Q h=>by
 obtain⟨w,S,τ,hr,sl,q⟩:=h;refine⟨w,S,τ,hr,sl,(aV.az q).mono λx H1 pO=>?_⟩
 obtain⟨w1,S1,t1,cU,bH,r1,_,q1⟩:=pO;subst r1;cases t1 with
 |true=>rw[if_pos rfl] at q1;exact BA ⟨w1,S1,τ,bH,sl.mono cU,q1⟩
 |false=>rw[if_neg zah] at q1;exact Bx (q1 w1 H1 _ (.refl _) bH rfl)
theorem V7 (ha:BQ G k X a ta)(hb:K8 G k X (.BoolOp .Or (b::dm) pos) tb):K8 G k X (.BoolOp .Or (a::b::dm) pos) (EZ ta tb):=.mk<|λo=>(af0 (ha o) (hb o)).wk λσ H Q h=>by
 obtain⟨w,S,τ,hr,sl,q⟩:=h;refine⟨w,S,τ,hr,sl,(aV.az q).mono λx H1 lg=>?_⟩
 obtain⟨w1,S1,t1,cU,bH,r1,_,q1⟩:=lg;subst r1;cases t1 with
 |true=>rw[if_pos rfl] at q1;exact BA (q1 w1 H1 _ (.refl _) bH rfl)
 |false=>rw[if_neg zah] at q1;exact Bx ⟨w1,S1,τ,bH,sl.mono cU,q1⟩
theorem K8.t (h:K8 G k X e ta):BQ G k X e ta:=.mk<|λo=>(h o).pt
noncomputable def i8 (fa fb:Em):Em:=λτ S=>(fa τ S).az λt S1=>match t with|.bl true=>fb τ S1|.bl false=>.ok (.bl false) S1|_=>.aA
noncomputable def V8 (fa fb:Em):Em:=λτ S=>(fa τ S).az λt S1=>match t with|.bl true=>.ok (.bl true) S1|.bl false=>fb τ S1|_=>.aA
noncomputable def JD (fa:Em):Em:=λτ S=>(fa τ S).az λt S1=>match t with|.bl b=>.ok (.bl (!b)) S1|_=>.aA
noncomputable def DW (ta:En->Cs->R Bool)(fa fb:Em):Em:=λτ S=>(ta τ S).az λx S1=>if x=true then fa τ S1 else fb τ S1
theorem E3 {op}(h:TV G k X a fa):TV G k X (.BoolOp op [a] pos) fa:=.mk<|λo=>ZG (h o)
theorem Aa (ha:TV G k X a fa)(hb:TV G k X (.BoolOp .And (b::dm) pos) fb):TV G k X (.BoolOp .And (a::b::dm) pos) (i8 fa fb):=.mk<|λo=>(ZH (ha o) (hb o)).wk λσ H Q h=>by
 obtain⟨w,S,τ,hr,sl,q⟩:=h;refine⟨w,S,τ,hr,sl,(aV.az q).mono λx H1 uf=>?_⟩
 obtain⟨w1,S1,t1,cU,bH,r1,_,q1⟩:=uf;split at q1
 ·unfold RT at r1;subst r1;exact⟨true,rfl,BA ⟨w1,S1,τ,bH,sl.mono cU,q1⟩⟩
 ·unfold RT at r1;subst r1;exact⟨false,rfl,Bx (q1 w1 H1 _ (.refl _) bH gr)⟩
 ·exact q1.elim
theorem ahx (ha:TV G k X a fa)(hb:TV G k X (.BoolOp .Or (b::dm) pos) fb):TV G k X (.BoolOp .Or (a::b::dm) pos) (V8 fa fb):=.mk<|λo=>(af3 (ha o) (hb o)).wk λσ H Q h=>by
 obtain⟨w,S,τ,hr,sl,q⟩:=h;refine⟨w,S,τ,hr,sl,(aV.az q).mono λx H1 lq=>?_⟩
 obtain⟨w1,S1,t1,cU,bH,r1,_,q1⟩:=lq;split at q1
 ·unfold RT at r1;subst r1;exact⟨true,rfl,BA (q1 w1 H1 _ (.refl _) bH gr)⟩
 ·unfold RT at r1;subst r1;exact⟨false,rfl,Bx ⟨w1,S1,τ,bH,sl.mono cU,q1⟩⟩
 ·exact q1.elim
theorem E4 (ha:TV G k X a fa):TV G k X (.UnaryOp .Not a pos) (JD fa):=.mk<|λo=>(ZI (ha o)).wk λσ H Q h=>by
 obtain⟨w,S,τ,hr,sl,q⟩:=h;refine⟨w,S,τ,hr,sl,(aV.az q).mono λx H1 ly=>?_⟩
 obtain⟨w1,S1,t1,cU,bH,r1,_,q1⟩:=ly;split at q1
 ·unfold RT at r1;subst r1;exact⟨_,rfl,q1 w1 H1 _ (.refl _) bH gr⟩
 ·exact q1.elim
theorem aa2 (hc:BQ G k X c ta)(ha:TV G k X a fa)(hb:TV G k X b fb):TV G k X (.IfExp c a b pos) (DW ta fa fb):=.mk<|λo=>(Ln (hc o) (ha o) (hb o)).wk λσ H Q h=>by
 obtain⟨w,S,τ,hr,sl,q⟩:=h;refine⟨w,S,τ,hr,sl,(aV.az q).mono λx H1 oO=>?_⟩
 obtain⟨w1,S1,t1,cU,bH,r1,_,q1⟩:=oO;subst r1;cases t1 with
 |true=>rw[if_pos rfl] at q1;exact BA ⟨w1,S1,τ,bH,sl.mono cU,q1⟩
 |false=>rw[if_neg zah] at q1;exact Bx ⟨w1,S1,τ,bH,sl.mono cU,q1⟩
noncomputable def aj:En->Cs->R (List Tr):=λ_ S=>.ok [] S
noncomputable def af (f:Em)(r:En->Cs->R (List Tr)):En->Cs->R (List Tr):=λτ S=>(f τ S).az λt S1=>(r τ S1).az λts S2=>.ok (t::ts) S2
theorem ug:xw G k X [] aj:=.mk<|λ_=>Es.wk λσ H Q h=>by
 obtain⟨w,S,τ,hr,sl,q⟩:=h;exact q w H [] (.refl w) hr .nil
theorem lz (ha:TV G k X e f)(hr:xw G k X es fr)(hs:dS e=false:=by rfl):xw G k X (e::es) (af f fr):=.mk<|λo=>(pA (ha o) (hr o) (dH hs)).wk λσ H Q h=>by
 obtain⟨w,S,τ,hr,sl,q⟩:=h;refine⟨w,S,τ,hr,sl,(aV.az q).mono λx H1 oQ=>?_⟩
 obtain⟨w1,S1,t1,cU,bH,r1,_,q1⟩:=oQ;refine⟨w1,S1,τ,bH,sl.mono cU,(aV.az q1).mono λxs H2 uh=>?_⟩
 obtain⟨w2,S2,ts,eB,dg,r2,_,q2⟩:=uh;exact q2 w2 H2 _ (.refl _) dg (.cons (RT.mono eB _ _ r1) r2)
noncomputable def cL (fr:En->Cs->R (List Tr)):Em:=λτ S=>(fr τ S).az λts S1=>if ts.length<=sizeLine then .ok (.tp ts) S1 else .aA
noncomputable def kr (fr:En->Cs->R (List Tr)):Em:=λτ S=>(fr τ S).az λts S1=>if ts.length<=sizeLine then .ok (.ls ts) S1 else .aA
noncomputable def oF (fr:En->Cs->R (List Tr)):Em:=λτ S=>(fr τ S).az λts S1=>if ts.length<=sizeLine then .ok (.hd S1.length) (S1++[.aM ts]) else .aA
theorem HR.Sv {w:Wd}{S:Cs}{H:Hp}{ts:List Tr}{xs:List V}(hr:HR G w S H)(r:bJ w ts xs){Q:VK}{S':Cs}(hS:S'=S)(q:aV RT G w (.ok (.tp ts) S') Q):∀p,H p=none->Q (.ref p) (bu H p (.fP xs)):=λp hp=>by
 subst hS;obtain⟨h2,le⟩:=hr.lay hp (.fP xs)
 refine q _ _ _ le h2 ?_
 unfold RT;exact⟨p,xs,rfl,au,bJ.mono le _ _ r⟩
theorem HR.jF {w:Wd}{S:Cs}{H:Hp}{ts:List Tr}{xs:List V}(hr:HR G w S H)(r:bJ w ts xs){Q:VK}{S':Cs}(hS:S'=S)(q:aV RT G w (.ok (.ls ts) S') Q):∀p,H p=none->Q (.ref p) (bu H p (.aM xs)):=λp hp=>by
 subst hS;obtain⟨h2,le⟩:=hr.lay hp (.aM xs)
 refine q _ _ _ le h2 ?_
 unfold RT;exact⟨p,xs,rfl,au,bJ.mono le _ _ r⟩
theorem HR.amJ {w:Wd}{S:Cs}{H:Hp}{ts:List Tr}{xs:List V}(hr:HR G w S H)(r:bJ w ts xs){Q:VK}{S':Cs}{n:Nat}(hS:S'=S++[.aM ts])(hn:n=S.length)(q:aV RT G w (.ok (.hd n) S') Q):∀p,H p=none->Q (.ref p) (bu H p (.aM xs)):=λp hp=>by
 subst hS hn;obtain⟨h2,le⟩:=hr.EW (c:=.aM ts) hp (o:=.aM xs) rfl ⟨xs,au,bJ.mono (w.uc p) _ _ r⟩
 refine q _ _ _ le h2 ?_
 unfold RT;refine⟨by rw[<-hr.n];exact zbi _,?_⟩
 show V.ref p=V.ref (if S.length=w.n then p else w.ρ S.length)
 rw[if_pos hr.n.symm]
theorem aa3 {x1}(h:xw G k X es fr):TV G k X (.Tuple es x1 pos) (cL fr):=.mk<|λo=>(Z8 (h o)).wk λσ H Q h=>by
 obtain⟨w,S,τ,hr,sl,q⟩:=h;refine⟨w,S,τ,hr,sl,(aV.az q).mono λxs H1 um=>?_⟩
 obtain⟨w1,S1,ts,cU,bH,r1,_,q1⟩:=um;split at q1
 ·exact⟨by rw[r1.len];assumption,bH.Sv r1 rfl q1⟩
 ·exact q1.elim
theorem aa4 (h:xw G k X es fr):TV G k X (.List es pos) (kr fr):=.mk<|λo=>(LD (h o)).wk λσ H Q h=>by
 obtain⟨w,S,τ,hr,sl,q⟩:=h;refine⟨w,S,τ,hr,sl,(aV.az q).mono λxs H1 E5=>?_⟩
 obtain⟨w1,S1,ts,cU,bH,r1,_,q1⟩:=E5;split at q1
 ·exact⟨by rw[r1.len];assumption,bH.jF r1 rfl q1⟩
 ·exact q1.elim
theorem Sw (h:xw G k X es fr):TV G k X (.List es pos) (oF fr):=.mk<|λo=>(LD (h o)).wk λσ H Q h=>by
 obtain⟨w,S,τ,hr,sl,q⟩:=h;refine⟨w,S,τ,hr,sl,(aV.az q).mono λxs H1 aa5=>?_⟩
 obtain⟨w1,S1,ts,cU,bH,r1,_,q1⟩:=aa5;split at q1
 ·exact⟨by rw[r1.len];assumption,bH.amJ r1 rfl rfl q1⟩
 ·exact q1.elim
end
noncomputable def cu (S:Cs)(n:Nat):Option (List Tr):=match S[n]? with|some (.aM l)=>some l|_=>none
noncomputable def oG (S:Cs)(n:Nat):Option (List (dh×Tr)):=match S[n]? with|some (.gS l)=>some l|_=>none
noncomputable def iV (S:Cs)(n:Nat):Option (Str×List (Str×Tr)):=match S[n]? with|some (.fH c l)=>some (c,l)|_=>none
theorem cF (h:cu S n=some l):S[n]? = some (.aM l):=by
 unfold cu at h;split at h
 ·cases h;assumption
 ·cases h
theorem g9 (h:oG S n=some l):S[n]? = some (.gS l):=by
 unfold oG at h;split at h
 ·cases h;assumption
 ·cases h
theorem fM (h:iV S n=some (c,l)):S[n]? = some (.fH c l):=by
 unfold iV at h;split at h
 ·cases h;assumption
 ·cases h
noncomputable def E6 (S:Cs):Tr->Option (List Tr)
 |.ls l=>some l
 |.hd n=>cu S n
 |_=>none
noncomputable def xA (S:Cs):Tr->Option (List Tr)
 |.ls l=>some l
 |.kl l=>some l
 |.hd n=>cu S n
 |_=>none
noncomputable def MS:Tr->Option (List Tr)
 |.tp l=>some l
 |.kt l=>some l
 |_=>none
noncomputable def BW (S:Cs):Tr->Option (List Tr)
 |.tp l=>some l
 |.kt l=>some l
 |.ls l=>some l
 |.kl l=>some l
 |.hd n=>cu S n
 |_=>none
noncomputable def JE (S:Cs):Tr->Option (List (dh×Tr))
 |.hd n=>oG S n
 |_=>none
theorem RT.cK (r:RT w (.hd n) v):n<w.n/\v = .ref (w.ρ n):=by unfold RT at r;exact r
theorem qM (hr:HR G w S H)(r:RT w t v)(e:E6 S t=some l):∃a xs,v = .ref a/\H a=some (.aM xs)/\bJ w l xs:=by
 cases t with
 |ls m =>
  cases e;unfold RT at r;obtain⟨a,xs,rfl,h,r⟩:=r;exact⟨a,xs,rfl,hr.sub _ _ h,r⟩
 |hd n =>
  obtain⟨xs,h1,h2⟩:=hr.cell n _ (cF e)
  exact⟨_,xs,r.cK.2,h1,h2⟩
 |_=>cases e
theorem jl (hr:HR G w S H)(r:RT w t v)(e:xA S t=some l):∃a xs,v = .ref a/\jC G.K H a xs/\bJ w l xs:=by
 cases t with
 |ls m =>
  cases e;unfold RT at r;obtain⟨a,xs,rfl,h,r⟩:=r;exact⟨a,xs,rfl,jC.of (hr.sub _ _ h),r⟩
 |kl m =>
  cases e;unfold RT at r;obtain⟨a,xs,rfl,h,r⟩:=r;exact⟨a,xs,rfl,hr.sqL h,r⟩
 |hd n =>
  obtain⟨xs,h1,h2⟩:=hr.cell n _ (cF e)
  exact⟨_,xs,r.cK.2,jC.of h1,h2⟩
 |_=>cases e
theorem g_ (hr:HR G w S H)(r:RT w t v)(e:MS t=some l):∃a xs,v = .ref a/\nJ G.K H a xs/\bJ w l xs:=by
 cases t with
 |tp m =>
  cases e;unfold RT at r;obtain⟨a,xs,rfl,h,r⟩:=r;exact⟨a,xs,rfl,nJ.of (hr.sub _ _ h),r⟩
 |kt m =>
  cases e;unfold RT at r;obtain⟨a,xs,rfl,h,r⟩:=r;exact⟨a,xs,rfl,hr.sqT h,r⟩
 |_=>cases e
theorem Ab (hr:HR G w S H)(r:RT w t v)(e:BW S t=some l):∃a xs,v = .ref a/\(jC G.K H a xs\/nJ G.K H a xs)/\bJ w l xs:=by
 cases t with
 |ls m=>obtain⟨a,xs,h1,h2,h3⟩:=jl hr r (l:=l) (e);exact⟨a,xs,h1,.inl h2,h3⟩
 |kl m=>obtain⟨a,xs,h1,h2,h3⟩:=jl hr r (l:=l) (e);exact⟨a,xs,h1,.inl h2,h3⟩
 |hd n=>obtain⟨a,xs,h1,h2,h3⟩:=jl hr r (l:=l) (e);exact⟨a,xs,h1,.inl h2,h3⟩
 |tp m=>obtain⟨a,xs,h1,h2,h3⟩:=g_ hr r (l:=l) (e);exact⟨a,xs,h1,.inr h2,h3⟩
 |kt m=>obtain⟨a,xs,h1,h2,h3⟩:=g_ hr r (l:=l) (e);exact⟨a,xs,h1,.inr h2,h3⟩
 |_=>cases e
theorem uo (hr:HR G w S H)(r:RT w t v)(e:JE S t=some m):∃n aK,t = .hd n/\S[n]? = some (.gS m)/\v = .ref (w.ρ n)/\H (w.ρ n)=some (.dK aK)/\RK w m aK:=by
 cases t with
 |hd n =>
  obtain⟨xs,h1,h2⟩:=hr.cell n _ (g9 e)
  exact⟨n,xs,rfl,g9 e,r.cK.2,h1,h2⟩
 |_=>cases e
theorem bJ.jK (h:bJ w l xs)(e:L2.jK l i=some t):∃v,L2.jK xs i=some v/\RT w t v:=by
 unfold L2.jK at e ⊢
 rw[h.len];cases q:zK l.length i with
 |none=>rw[q] at e;cases e
 |some j=>rw[q] at e;exact h.get e
noncomputable def cO:Tr->Tr->Cs->R Tr:=λt1 t2 S=>match t1,t2 with
 |.int i,.int j=>.ok (.int (i+j)) S
 |.str a,.str b=>if a.length+b.length<=sizeLine then .ok (.str (a++b)) S else .aA
 |.tp a,.tp b=>if a.isEmpty=false/\a.length+b.length<=sizeLine then .ok (.tp (a++b)) S else .aA
 |t1,t2=>match E6 S t1,E6 S t2 with
  |some a,some b=>if a.length+b.length<=sizeLine then .ok (.ls (a++b)) S else .aA
  |_,_=>.aA
noncomputable def gI (g:Int->Int->Tr):Tr->Tr->Cs->R Tr:=λt1 t2 S=>match t1,t2 with
 |.int i,.int j=>.ok (g i j) S
 |_,_=>.aA
noncomputable def K9 (c:Int->Int->Bool)(g:Int->Int->Tr):Tr->Tr->Cs->R Tr:=λt1 t2 S=>match t1,t2 with
 |.int i,.int j=>if c i j=true then .ok (g i j) S else .aA
 |_,_=>.aA
noncomputable abbrev dJ:=gI λi j=>.int (i - j)
noncomputable abbrev Sy:=K9 (λ_ j=>decide (0<j/\j<1073741824)) λi j=>.int (i / j)
noncomputable abbrev qN:=K9 (λ_ j=>decide (0<j)) λi j=>.int (i % j)
noncomputable def uq:Tr->Tr->Cs->R Tr:=λt1 t2 S=>match t1,t2 with
 |.int i,.int j=>xu ((-(2 ^ 64)<i/\i<2 ^ 64)\/(-(2 ^ 64)<j/\j<2 ^ 64)) (.ok (.int (i * j)) S) .aA
 |.str a,.int n=>if 0<=n/\n<1000000/\a.length * n.toNat<=1000000 then .ok (.str (pJ a n.toNat)) S else .aA
 |_,_=>.aA
noncomputable abbrev V9:=gI λi j=>.bl (decide (i<j))
noncomputable abbrev gLe:=gI λi j=>.bl (decide (i<=j))
noncomputable abbrev gGt:=gI λi j=>.bl (decide (j<i))
noncomputable abbrev gGe:=gI λi j=>.bl (decide (j<=i))
noncomputable def Ac:Tr->Cs->R Tr:=λt S=>match t with|.int i=>.ok (.int (-i)) S|_=>.aA
theorem aN (r:RT w (.int i) v):v = .int i:=by unfold RT at r;exact r
theorem b9 (r:RT w (.str i) v):v = .str i:=by unfold RT at r;exact r
theorem ku (r:RT w (.bl i) v):v = .bl i:=by unfold RT at r;exact r
theorem jm (r:RT w .bz v):v = .bz:=by unfold RT at r;exact r
theorem BX (h:∀X:Cx,jU G k X->kQ X f (Rf gv))(rg:∀(w:Wd) i j,RT w (g i j) (gv i j)):om G k f (gI g):=.mk<|λX o ah s σ H x y v u Q I rx ry b_=>by
 obtain⟨w,S,t1,t2,hr,r1,r2,q⟩:=b_;unfold gI at q;split at q
 ·exact h X o ah s σ H x y v u Q I rx ry ⟨_,_,aN r1,aN r2,q w H _ (.refl w) hr (rg _ _ _)⟩
 ·exact q.elim
theorem MT (h:∀X:Cx,jU G k X->kQ X f (rI C gv))(hc:∀i j,c i j=true->C i j)(rg:∀(w:Wd) i j,RT w (g i j) (gv i j)):om G k f (K9 c g):=.mk<|λX o ah s σ H x y v u Q I rx ry cX=>by
 obtain⟨w,S,t1,t2,hr,r1,r2,q⟩:=cX;unfold K9 at q;split at q
 ·split at q
  ·exact h X o ah s σ H x y v u Q I rx ry ⟨_,_,aN r1,aN r2,hc _ _ (by assumption),q w H _ (.refl w) hr (rg _ _ _)⟩
  ·exact q.elim
 ·exact q.elim
theorem ahz:om G k (binaryOp .Sub) dJ:=BX (λX _=>ZY) λ_ _ _=>eV
theorem ahA:om G k (binaryOp .FloorDiv) Sy:=MT (λX _=>Rh) (λi j h=>(of_decide_eq_true h:0<j/\j<1073741824)) λ_ _ _=>eV
theorem ahB:om G k (binaryOp .Mod) qN:=MT (λX _=>Z0) (λi j h=>of_decide_eq_true h) λ_ _ _=>eV
theorem MU:om G k (compareOp .Lt) V9:=BX (λX _=>agl) λ_ _ _=>gr
theorem MV:om G k (compareOp .LtE) gLe:=BX (λX _=>agm) λ_ _ _=>gr
theorem ahC:om G k (compareOp .Gt) gGt:=BX (λX _=>agn) λ_ _ _=>gr
theorem ahD:om G k (compareOp .GtE) gGe:=BX (λX _=>ago) λ_ _ _=>gr
theorem ahE:om G k (binaryOp .Mult) uq:=.mk<|λX o ah s σ H x y v u Q I rx ry dP=>by
 obtain⟨w,S,t1,t2,hr,r1,r2,q⟩:=dP;unfold uq at q;split at q
 ·unfold xu at q
  split at q
  ·exact ZZ ah s σ H x y v u Q I rx ry ⟨_,_,aN r1,aN r2,(by assumption),q w H _ (.refl w) hr eV⟩
  ·exact q.elim
 ·split at q
  ·rename_i h
   exact EL ah s σ H x y v u Q I rx ry ⟨_,_,b9 r1,aN r2,h.1,h.2.1,h.2.2,q w H _ (.refl w) hr k_⟩
  ·exact q.elim
 ·exact q.elim
theorem ahF:om G k (binaryOp .Add) cO:=.mk<|λX o ah s σ H x y v u Q I rx ry kg=>by
 obtain⟨w,S,t1,t2,hr,r1,r2,q⟩:=kg;unfold cO at q;split at q
 ·exact ZX ah s σ H x y v u Q I rx ry ⟨_,_,aN r1,aN r2,q w H _ (.refl w) hr eV⟩
 ·split at q
  ·exact Ek ah s σ H x y v u Q I rx ry ⟨_,_,b9 r1,b9 r2,(by assumption),q w H _ (.refl w) hr k_⟩
  ·exact q.elim
 ·split at q
  ·rename_i a b h
   obtain⟨p,xs,e1,s1,R1⟩:=g_ hr r1 (l:=a) rfl
   obtain⟨p2,ys,e2,s2,R2⟩:=g_ hr r2 (l:=b) rfl
   rw[<-o.K] at s1 s2;refine RL ah s σ H x y v u Q I rx ry ⟨p,p2,xs,ys,e1,e2,s1,s2,?_,by rw[R1.len,R2.len];exact h.2,λz=>?_,λz=>hr.Sv (R1.rJ R2) rfl q⟩
   ·intro z
    have:=R1.len
    rw[z] at this;have h1:=h.1;cases a with
    |nil=>simp at h1
    |cons _ _=>simp at this
   ·have hb:b=[]:=by
     have:=R2.len
     rw[z] at this;cases b with
     |nil=>rfl
     |cons _ _=>simp at this
    subst hb;rw[zaw] at q;rw[<-e1];exact q w H _ (.refl w) hr r1
  ·exact q.elim
 ·split at q
  ·rename_i a b ea eb
   split at q
   ·obtain⟨p,xs,e1,s1,R1⟩:=qM hr r1 ea
    obtain⟨p2,ys,e2,s2,R2⟩:=qM hr r2 eb;exact aaq ah s σ H x y v u Q I rx ry ⟨p,p2,xs,ys,e1,e2,s1,s2,by rw[R1.len,R2.len];assumption,hr.jF (R1.rJ R2) rfl q⟩
   ·exact q.elim
  ·exact q.elim
theorem ahG:∀X:Cx,jU G k X->UnR X (unaryOp .USub) (r1 G Ac):=λX o ah s σ H x v Q I rx jj=>by
 obtain⟨w,S,t1,hr,r1,q⟩:=jj;unfold Ac at q;split at q
 ·exact Z1 ah s σ H x v Q I rx ⟨_,aN r1,q w H _ (.refl w) hr eV⟩
 ·exact q.elim
noncomputable def MW:Tr->Tr->Option Bool
 |.int i,.int j=>some (decide (i=j))
 |.str i,.str j=>some (decide (i=j))
 |.bl i,.bl j=>some (i == j)
 |.bz,.bz=>some true
 |.bz,.int _=>some false
 |.int _,.bz=>some false
 |.bz,.bl _=>some false
 |.bl _,.bz=>some false
 |.bz,.str _=>some false
 |.str _,.bz=>some false
 |.int _,.str _=>some false
 |.str _,.int _=>some false
 |.bl _,.str _=>some false
 |.str _,.bl _=>some false
 |_,_=>none
mutual
noncomputable def Tr.qO:Tr->Bool
 |.tp l=>Tr.pP l
 |.ls l=>Tr.pP l
 |.kt _=>false
 |.kl _=>false
 |.hd _=>false
 |_=>true
noncomputable def Tr.pP:List Tr->Bool
 |[]=>true
 |t::l=>Tr.qO t && Tr.pP l
end
mutual
noncomputable def Tr.dp:Tr->Nat
 |.tp l=>Tr.DX l+1
 |.ls l=>Tr.DX l+1
 |_=>0
noncomputable def Tr.DX:List Tr->Nat
 |[]=>0
 |t::l=>max (Tr.dp t) (Tr.DX l)
end
mutual
noncomputable def Tr.dv:Tr->DV
 |.tp l=>.tp (Tr.K_ l)
 |.ls l=>.ls (Tr.K_ l)
 |.int i=>.fl (.int i)
 |.bl i=>.fl (.bl i)
 |.str i=>.fl (.str i)
 |_=>.fl .bz
noncomputable def Tr.K_:List Tr->List DV
 |[]=>[]
 |t::l=>Tr.dv t::Tr.K_ l
end
mutual
theorem Tr.Ae:∀t:Tr,DV.yh t.dv=t.dp
 |.tp l=>by unfold Tr.dv Tr.dp DV.yh;rw[Tr.Af l]
 |.ls l=>by unfold Tr.dv Tr.dp DV.yh;rw[Tr.Af l]
 |.int _=>by unfold Tr.dv Tr.dp DV.yh;rfl
 |.bl _=>by unfold Tr.dv Tr.dp DV.yh;rfl
 |.str _=>by unfold Tr.dv Tr.dp DV.yh;rfl
 |.bz=>by unfold Tr.dv Tr.dp DV.yh;rfl
 |.kt _=>by unfold Tr.dv Tr.dp DV.yh;rfl
 |.kl _=>by unfold Tr.dv Tr.dp DV.yh;rfl
 |.hd _=>by unfold Tr.dv Tr.dp DV.yh;rfl
theorem Tr.Af:∀l:List Tr,DV.BJ (Tr.K_ l)=Tr.DX l
 |[]=>by unfold Tr.K_ Tr.DX DV.BJ;rfl
 |t::l=>by unfold Tr.K_ Tr.DX DV.BJ;rw[Tr.Ae t,Tr.Af l]
end
noncomputable def vw:Nat->Cs->Tr->Tr
 |n+1,S,.hd i=>(match cu S i with|some l=>.ls (l.map (vw n S))|none=>.hd i)
 |n+1,S,.ls l=>.ls (l.map (vw n S))
 |n+1,S,.kl l=>.ls (l.map (vw n S))
 |n+1,S,.tp l=>.tp (l.map (vw n S))
 |n+1,S,.kt l=>.tp (l.map (vw n S))
 |_,_,t=>t
section
variable {G:Gx}{w:Wd}{S:Cs}{H:Hp}
theorem kC (hg:∀t v,RT w t v->(g t).qO=true->iA G.K H (g t).dv v):∀{l:List Tr} {xs:List V},bJ w l xs->Tr.pP (l.map g)=true->kj G.K H (Tr.K_ (l.map g)) xs
 |[],xs,h,_=>by rw[h.bP];unfold List.map Tr.K_ kj;rfl
 |t::l,xs,h,n=>by
  obtain⟨x,r,rfl,h1,h2⟩:=h.aY;simp only[zat] at n ⊢
  unfold Tr.pP at n;unfold Tr.K_ kj;have n:=zbk.mp n;exact⟨x,r,rfl,hg t x h1 n.1,kC hg h2 n.2⟩
mutual
theorem kD (hr:HR G w S H):∀(t:Tr) (v:V),RT w t v->t.qO=true->iA G.K H t.dv v
 |.tp l,v,r,n=>by
  unfold RT at r;unfold Tr.qO at n;unfold Tr.dv iA
  obtain⟨a,xs,e,h,r⟩:=r;exact⟨a,xs,e,nJ.of (hr.sub _ _ h),qP hr l xs r n⟩
 |.ls l,v,r,n=>by
  unfold RT at r;unfold Tr.qO at n;unfold Tr.dv iA
  obtain⟨a,xs,e,h,r⟩:=r;exact⟨a,xs,e,jC.of (hr.sub _ _ h),qP hr l xs r n⟩
 |.int _,v,r,n=>by unfold Tr.dv iA;exact⟨aN r,rfl⟩
 |.bl _,v,r,n=>by unfold Tr.dv iA;exact⟨ku r,rfl⟩
 |.str _,v,r,n=>by unfold Tr.dv iA;exact⟨b9 r,rfl⟩
 |.bz,v,r,n=>by unfold Tr.dv iA;exact⟨jm r,rfl⟩
 |.kt _,v,r,n=>by unfold Tr.qO at n;cases n
 |.kl _,v,r,n=>by unfold Tr.qO at n;cases n
 |.hd _,v,r,n=>by unfold Tr.qO at n;cases n
theorem qP (hr:HR G w S H):∀(l:List Tr) (xs:List V),bJ w l xs->Tr.pP l=true->kj G.K H (Tr.K_ l) xs
 |[],xs,r,n=>by unfold Tr.K_ kj;exact r.bP
 |t::l,xs,r,n=>by
  obtain⟨x,r',rfl,h1,h2⟩:=r.aY;unfold Tr.pP at n;unfold Tr.K_ kj;have n:=zbk.mp n;exact⟨x,r',rfl,kD hr t x h1 n.1,qP hr l r' h2 n.2⟩
end
theorem lA (hr:HR G w S H):∀(n:Nat) (t:Tr) (v:V),RT w t v->(vw n S t).qO=true->iA G.K H (vw n S t).dv v
 |0,t,v,r,n=>by unfold vw at n ⊢;exact kD hr t v r n
 |m+1,t,v,r,n=>by
  cases t with
  |hd i =>
   unfold vw at n ⊢
   split at n
   ·rename_i l e
    unfold Tr.qO at n;obtain⟨xs,h1,h2⟩:=hr.cell i _ (cF e)
    rw[r.cK.2];unfold Tr.dv iA;exact⟨_,xs,rfl,jC.of h1,kC (lA hr m) h2 n⟩
   ·unfold Tr.qO at n;cases n
  |ls l =>
   unfold vw at n ⊢
   unfold Tr.qO at n;unfold RT at r;obtain⟨a,xs,e,h,r⟩:=r;unfold Tr.dv iA;exact⟨a,xs,e,jC.of (hr.sub _ _ h),kC (lA hr m) r n⟩
  |kl l =>
   unfold vw at n ⊢
   unfold Tr.qO at n;unfold RT at r;obtain⟨a,xs,e,h,r⟩:=r;unfold Tr.dv iA;exact⟨a,xs,e,hr.sqL h,kC (lA hr m) r n⟩
  |tp l =>
   unfold vw at n ⊢
   unfold Tr.qO at n;unfold RT at r;obtain⟨a,xs,e,h,r⟩:=r;unfold Tr.dv iA;exact⟨a,xs,e,nJ.of (hr.sub _ _ h),kC (lA hr m) r n⟩
  |kt l =>
   unfold vw at n ⊢
   unfold Tr.qO at n;unfold RT at r;obtain⟨a,xs,e,h,r⟩:=r;unfold Tr.dv iA;exact⟨a,xs,e,hr.sqT h,kC (lA hr m) r n⟩
  |bz=>unfold vw at n ⊢;exact kD hr _ v r n
  |int=>unfold vw at n ⊢;exact kD hr _ v r n
  |bl=>unfold vw at n ⊢;exact kD hr _ v r n
  |str=>unfold vw at n ⊢;exact kD hr _ v r n
end
open Classical in
noncomputable def bY (neg:Bool):Tr->Tr->Cs->R Tr:=λt1 t2 S=>match MW t1 t2 with
 |some b=>.ok (.bl (if neg then !b else b)) S
 |none=>if vw 6 S t1=vw 6 S t2/\(vw 6 S t1).qO=true/\(vw 6 S t1).dp<=50/\(vw 6 S t1).dp≠0 then .ok (.bl (!neg)) S else .aA
theorem SA (h:MW t1 t2=some b)(r1:RT w t1 x)(r2:RT w t2 y):Z3 x y=true/\decide (x=y)=b:=by
 unfold MW at h;split at h<;>(first | (cases h;done)|skip)<;>(unfold RT at r1 r2;subst r1;subst r2;cases h;first|exact⟨rfl,Ei⟩|exact⟨rfl,by simp⟩|exact⟨rfl,by rw[zaU];simp⟩)
theorem MX:om G k (compareOp (if neg then .NotEq else .Eq)) (bY neg):=.mk<|λX o ah s σ H x y v u Q I rx ry f6=>by
 obtain⟨w,S,t1,t2,hr,r1,r2,q⟩:=f6;unfold bY at q;split at q
 ·rename_i b e
  obtain⟨h1,h2⟩:=SA e r1 r2;have q:=q w H _ (.refl w) hr gr
  cases neg with
  |true=>exact agk ah s σ H x y v u Q I rx ry ⟨h1,by rw[h2];exact q⟩
  |false=>exact agj ah s σ H x y v u Q I rx ry ⟨h1,by rw[h2];exact q⟩
 ·split at q
  ·rename_i h
   obtain⟨e1,e2,e3,e4⟩:=h;have d1:=lA hr 6 t1 x r1 e2;have d2:=lA hr 6 t2 y r2 (by rw[<-e1];exact e2)
   rw[<-e1] at d2;rw[<-o.K] at d1 d2;have q:=q w H _ (.refl w) hr gr
   have hn:∀z,(vw 6 S t1).dv ≠ .fl z:=λz hz=>e4 (by rw[<-Tr.Ae,hz];unfold DV.yh;rfl)
   cases neg with
   |true=>exact aaO o.hu ah s σ H x y v u Q I rx ry ⟨_,by rw[Tr.Ae];exact e3,hn,d1,d2,q⟩
   |false=>exact aaN o.hu ah s σ H x y v u Q I rx ry ⟨_,by rw[Tr.Ae];exact e3,hn,d1,d2,q⟩
  ·exact q.elim
theorem SD:om G k (compareOp .Eq) (bY false):=MX (neg:=false)
theorem MY:om G k (compareOp .NotEq) (bY true):=MX (neg:=true)
noncomputable def isN:Tr->Bool|.bz=>true|_=>false
noncomputable def i9 (neg:Bool):Tr->Tr->Cs->R Tr:=λt1 t2 S=>match t2 with
 |.bz=>.ok (.bl (if neg then !isN t1 else isN t1)) S
 |_=>.aA
theorem MZ (r:RT w t x):decide (x=V.bz)=isN t:=by
 cases t<;>unfold RT at r<;>(first | (subst r;rfl) | (obtain⟨a,xs,rfl,_⟩:=r;rfl) | (rw[r.2];rfl))
theorem V_:om G k (compareOp (if neg then .IsNot else .Is)) (i9 neg):=.mk<|λX o ah s σ H x y v u Q I rx ry jk=>by
 obtain⟨w,S,t1,t2,hr,r1,r2,q⟩:=jk;unfold i9 at q;split at q
 ·have q:=q w H _ (.refl w) hr gr
  cases neg with
  |true=>exact Ri ah s σ H x y v u Q I rx ry ⟨jm r2,by rw[MZ r1];exact q⟩
  |false=>exact Z4 ah s σ H x y v u Q I rx ry ⟨jm r2,by rw[MZ r1];exact q⟩
 ·exact q.elim
theorem SE:om G k (compareOp .Is) (i9 false):=V_ (neg:=false)
theorem G0:om G k (compareOp .IsNot) (i9 true):=V_ (neg:=true)
noncomputable def gJ:Tr->Option dh|.int i=>some (.inl i)|.str x=>some (.inr x)|_=>none
noncomputable def aH {κ:Type}[DecidableEq κ](k:κ):List (κ × Tr)->Option Tr
 |[]=>none
 | (j,t)::r=>if j=k then some t else aH k r
noncomputable def d8 {κ:Type}[DecidableEq κ](l:List (κ × Tr))(k:κ)(t:Tr):List (κ × Tr):=
 if (l.any λkv=>decide (kv.1=k))=true then l.map (λkv=>if kv.1=k then (kv.1,t) else kv) else l++[(k,t)]
noncomputable def cG (f:Str)(v:Tr):List (Str×Tr)->List (Str×Tr)
 |[]=>[(f,v)]
 | (g,x)::r=>if g=f then (g,v)::r else (g,x)::cG f v r
noncomputable def eW (aK jS:List (dh×Tr)):List (dh×Tr):=jS.foldl (λbU kv=>d8 bU kv.1 kv.2) aK
section
variable {w:Wd}{κ:Type}[DecidableEq κ]
theorem ng:∀{l:List (κ × Tr)} {m:List (κ × V)} {k:κ},RK w l m->(∀t,aH k l=some t->∃v,mq m k=some v/\RT w t v)/\(aH k l=none->mq m k=none)
 |[],m,k,h=>by rw[h.bP];exact⟨λt e=>(by cases e),λ_=>rfl⟩
 | (j,t)::l,m,k,h=>by
  obtain⟨v,r,rfl,h1,h2⟩:=h.aY;unfold aH;by_cases e:j=k
  ·rw[if_pos e,pB (p:=(j,v)) e]
   exact⟨λu z=>by cases z;exact⟨v,rfl,h1⟩,λz=>by cases z⟩
  ·rw[if_neg e,pC (p:=(j,v)) e]
   exact ng h2
theorem iB:∀{l:List (Str×Tr)} {m:List (Str×V)} {k:Str},RK w l m->(∀t,aH k l=some t->∃v,m.lookup k=some v/\RT w t v)/\(aH k l=none->m.lookup k=none)
 |[],m,k,h=>by rw[h.bP];exact⟨λt e=>(by cases e),λ_=>rfl⟩
 | (j,t)::l,m,k,h=>by
  obtain⟨v,r,rfl,h1,h2⟩:=h.aY;unfold aH;by_cases e:j=k
  ·subst e
   rw[if_pos rfl,List.lookup_cons_self];exact⟨λu z=>by cases z;exact⟨v,rfl,h1⟩,λz=>by cases z⟩
  ·have hb:(k == j)=false:=beq_eq_false_iff_ne.mpr λz=>e z.symm
   rw[if_neg e,zaV,hb];exact iB h2
theorem RK.zD (h:RK w l m)(k:κ)(r:RT w t v):RK w (d8 l k t) (j9 m k v):=by
 have amK:(l.any λkv=>decide (kv.1=k))=m.any λkv=>decide (kv.1=k):=by
  have e1:(l.any λkv=>decide (kv.1=k))=(l.map Prod.fst).any λj=>decide (j=k):=by rw[zcE];rfl
  have e2:(m.any λkv=>decide (kv.1=k))=(m.map Prod.fst).any λj=>decide (j=k):=by rw[zcE];rfl
  rw[e1,e2,h.1]
 have aa7:∀{l:List (κ × Tr)} {m:List (κ × V)},RK w l m->RK w (l.map λkv=>if kv.1=k then (kv.1,t) else kv) (m.map λkv=>if kv.1=k then (kv.1,v) else kv):=by
  intro l;induction l with
  |nil=>intro m h;rw[h.bP];exact .nil
  |cons p l ih =>
   intro m h;obtain⟨j,u⟩:=p;obtain⟨x,r',rfl,h1,h2⟩:=h.aY;simp only[zat];by_cases e:j=k
   ·rw[if_pos e,if_pos e];exact .cons r (ih h2)
   ·rw[if_neg e,if_neg e];exact .cons h1 (ih h2)
 unfold d8 j9;rw[amK];split
 ·exact aa7 h
 ·exact⟨by simp[h.1],by simp only[zaD,zat,zaJ];exact h.2.snoc r⟩
theorem RK.gE:∀{l:List (Str×Tr)} {m:List (Str×V)},RK w l m->(f:Str)->{t:Tr}->{v:V}->RT w t v->RK w (cG f t l) (L2.gE f v m)
 |[],m,h,f,t,v,r=>by rw[h.bP];exact .cons r .nil
 | (j,u)::l,m,h,f,t,v,r=>by
  obtain⟨x,r',rfl,h1,h2⟩:=h.aY;unfold cG L2.gE;split
  ·exact .cons r h2
  ·exact .cons h1 (RK.gE h2 f r)
theorem RK.Bt:∀{jS:List (dh×Tr)} {mv:List (dh×V)} {l:List (dh×Tr)} {m:List (dh×V)},RK w jS mv->RK w l m->RK w (eW l jS) (gn m mv)
 |[],mv,l,m,h,g=>by rw[h.bP];exact g
 | (k,t)::jS,mv,l,m,h,g=>by
  obtain⟨x,r',rfl,h1,h2⟩:=h.aY;show RK w (eW (d8 l k t) jS) (gn (j9 m k x) r')
  exact RK.Bt h2 (g.zD k h1)
theorem f9 (e:gJ t=some k)(r:RT w t v):v=kV k:=by
 cases t with
 |int i=>cases e;exact aN r
 |str i=>cases e;exact b9 r
 |_=>cases e
end
noncomputable def iW:Tr->Bool|.bz=>true|.bl _=>true|.int _=>true|.str _=>true|_=>false
noncomputable def eqF:Tr->Tr->Bool
 |.bz,.bz=>true
 |.bl a,.bl b=>a == b
 |.bl a,.int b=>(if a then 1 else 0) == b
 |.int a,.bl b=>a == (if b then 1 else 0)
 |.int a,.int b=>a == b
 |.str a,.str b=>a == b
 |_,_=>false
noncomputable def La (t:Tr)(l:List Tr):Bool:=l.any λu=>eqF u t
noncomputable def uv (neg:Bool):Tr->Tr->Cs->R Tr:=λt1 t2 S=>match t2 with
 |.str z=>(match t1 with|.str y=>.ok (.bl (if neg then !(!(Builtin.Str.occurrences z y 0 z.length 1).isEmpty) else !(Builtin.Str.occurrences z y 0 z.length 1).isEmpty)) S|_=>.aA)
 |t2=>match BW S t2 with
  |some l=>if iW t1=true/\l.all iW=true then .ok (.bl (if neg then !La t1 l else La t1 l)) S else .aA
  |none=>.aA
section
variable {G:Gx}{k:Nat}{w:Wd}
theorem uw (h:iW t=true)(r:RT w t v):jL v=true:=by
 cases t<;>first | (cases h;done) | (unfold RT at r;subst r;rfl)
theorem qQ:∀{l:List Tr} {xs:List V},l.all iW=true->bJ w l xs->xs.all jL=true
 |[],xs,_,r=>by rw[r.bP];rfl
 |t::l,xs,h,r=>by
  obtain⟨x,r',rfl,h1,h2⟩:=r.aY;have h:=zbk.mp (show (iW t && l.all iW)=true from h)
  show (jL x && r'.all jL)=true
  rw[uw h.1 h1,qQ h.2 h2];rfl
theorem aa8 (h1:iW t=true)(h2:iW u=true)(r1:RT w t x)(r2:RT w u y):zN x y=eqF t u:=by
 cases t<;>(first | (cases h1;done)|skip)<;>(unfold RT at r1;subst r1)<;>cases u<;>(first | (cases h2;done)|skip)<;>(unfold RT at r2;subst r2;rfl)
theorem M0 (h1:iW t=true)(r:RT w t x):∀{l:List Tr} {xs:List V},l.all iW=true->bJ w l xs->inV x xs=La t l
 |[],xs,_,q=>by rw[q.bP];rfl
 |u::l,xs,h,q=>by
  obtain⟨y,r',rfl,g1,g2⟩:=q.aY;have h:=zbk.mp (show (iW u && l.all iW)=true from h)
  show (zN y x || inV x r')=(eqF u t || La t l)
  rw[aa8 h.1 h1 g1 r,M0 h1 r h.2 g2]
theorem Wa:om G k (compareOp (if neg then .NotIn else .In)) (uv neg):=.mk<|λX o ah s σ H x y v u Q I rx ry b_=>by
 obtain⟨w,S,t1,t2,hr,r1,r2,q⟩:=b_;unfold uv at q;split at q
 ·split at q
  ·have q:=q w H _ (.refl w) hr gr
   cases neg with
   |true=>exact zR ah s σ H x y v u Q I rx ry ⟨_,_,b9 r1,b9 r2,q⟩
   |false=>exact IX ah s σ H x y v u Q I rx ry ⟨_,_,b9 r1,b9 r2,q⟩
  ·exact q.elim
 ·split at q
  ·rename_i l e
   split at q
   ·rename_i h
    obtain⟨a,xs,e1,sq,R⟩:=Ab hr r2 e;have q:=q w H _ (.refl w) hr gr
    rw[<-o.K] at sq;rw[<-M0 h.1 r1 h.2 R] at q;cases neg with
    |true=>exact zQ ah s σ H x y v u Q I rx ry ⟨a,xs,e1,sq,uw h.1 r1,qQ h.2 R,q⟩
    |false=>exact Je ah s σ H x y v u Q I rx ry ⟨a,xs,e1,sq,uw h.1 r1,qQ h.2 R,q⟩
   ·exact q.elim
  ·exact q.elim
theorem xB:om G k (compareOp .In) (uv false):=Wa (neg:=false)
theorem BY:om G k (compareOp .NotIn) (uv true):=Wa (neg:=true)
noncomputable def BZ (neg:Bool):Tr->Tr->Cs->R Tr:=λt1 t2 S=>match JE S t2,gJ t1 with
 |some m,some j=>.ok (.bl (if neg then !(aH j m).isSome else (aH j m).isSome)) S
 |_,_=>.aA
variable {X:Cx}{a b c:Expr}{fa fb fc:Em}{pos ahm:Pos}
theorem B0 (r:RK w m aK)(j:dh):(mq aK j).isSome=(aH j m).isSome:=by
 obtain⟨h1,h2⟩:=ng (k:=j) r
 cases e:aH j m with
 |none=>rw[h2 e];rfl
 |some t=>obtain⟨v,ev,_⟩:=h1 t e;rw[ev];rfl
theorem M1 (h:dY G (ai (BZ neg) fa fb) σ H Q):(if neg then zF (dY G fa) (dY G fb) else aaa (dY G fa) (dY G fb)) σ H Q:=by
 have h:=mZ h;have go:∀{σ H Q},ZU (r2 G (BZ neg)) (dY G fa) (dY G fb) σ H Q->dY G fa σ H λy H1=>dY G fb σ H1 λx H2=>∃a o,x=V.ref a/\mT H2 a y o/\Q (.bl (if neg then !o.isSome else o.isSome)) H2:=λ{σ H Q} h=>by
  obtain⟨w,S,τ,hr,sl,q⟩:=h;refine⟨w,S,τ,hr,sl,q.mono λy H1 ⟨w1,S1,fC,bH,BF,q1⟩=>⟨w1,S1,fC,bH,BF,q1.mono λx H2 dP=>?_⟩⟩
  obtain⟨w2,S2,t1,t2,dg,r1,r2,q2⟩:=dP;unfold BZ at q2;split at q2
  ·rename_i m j em ej
   obtain⟨n,aK,_,_,ev,hH,R⟩:=uo dg r2 em;refine⟨w2.ρ n,mq aK j,ev,?_,?_⟩
   ·rw[f9 ej r1]
    exact mT.k hH
   ·rw[B0 R]
    exact q2 w2 H2 _ (.refl _) dg gr
  ·exact q2.elim
 cases neg with
 |true=>exact go h
 |false=>exact go h
theorem SG (ha:TV G k X a fa)(hb:TV G k X b fb)(hm:behindInMarks .NotIn b=false:=by with_unfolding_all rfl):TV G k X (.Compare a [.NotIn] [b] pos) (ai (BZ true) fa fb):=.mk<|λo=>(ZA (Jd o.Ss (ha o) (hb o)) hm).wk λ_ _ _ h=>M1 (neg:=true) h
theorem aa9 (ha:TV G k X a fa)(hb:TV G k X b fb)(hm:behindInMarks .In b=false:=by with_unfolding_all rfl):BQ G k X (.Compare a [.In] [b] pos) (mB (ai (BZ false) fa fb)):=.mk<|λo=>(Ll (LL o.Ss (ha o) (hb o)) hm).wk λ_ _ _ h=>M1 (neg:=false) (pN h)
noncomputable def aL:Tr->Tr->Cs->R Tr:=λt1 t2 S=>match t1,t2 with
 |.str z,.int i=>if z.length<=sizeLine then (match jK z.cps.toList i with|some c=>.ok (.str ⟨#[c]⟩) S|none=>.aA) else .aA
 |t1,.int i=>(match BW S t1 with
  |some l=>(match jK l i with|some t=>.ok t S|none=>.aA)
  |none=>.aA)
 |_,_=>.aA
theorem ahH (ha:TV G k X a fa)(hb:TV G k X b fb)(hs:GN b:=by intro _ _;rfl):TV G k X (.Subscript a b pos) (ai aL fa fb):=.mk<|λo=>(agK aak (ha o) (hb o) hs).wk λσ H Q h=>by
 obtain⟨w,S,τ,hr,sl,q⟩:=mZ h;refine⟨w,S,τ,hr,sl,q.mono λx H1 ⟨w1,S1,fC,bH,BF,q1⟩=>⟨w1,S1,fC,bH,BF,q1.mono λy H2 iy=>?_⟩⟩
 obtain⟨w2,S2,t1,t2,dg,r1,r2,q2⟩:=iy;unfold aL at q2;split at q2
 ·split at q2
  ·split at q2
   ·rename_i c e
    exact .inr (.inr ⟨_,_,c,b9 r1,aN r2,(by assumption),e,q2 w2 H2 _ (.refl _) dg k_⟩)
   ·exact q2.elim
  ·exact q2.elim
 ·split at q2
  ·rename_i l e
   split at q2
   ·rename_i t et
    obtain⟨p,xs,e1,sq,R⟩:=Ab dg r1 e;obtain⟨v,ev,rv⟩:=R.jK et;have q:=q2 w2 H2 v (.refl _) dg rv
    rw[<-o.K] at sq;rcases sq with sq|sq
    ·exact .inl ⟨p,xs,_,v,e1,aN r2,sq,ev,q⟩
    ·exact .inr (.inl ⟨p,xs,_,v,e1,aN r2,sq,ev,q⟩)
   ·exact q2.elim
  ·exact q2.elim
 ·exact q2.elim
noncomputable def kE:Tr->Tr->Cs->R Tr:=λt1 t2 S=>match JE S t1,gJ t2 with
 |some m,some j=>(match aH j m with|some t=>.ok t S|none=>.aA)
 |_,_=>.aA
theorem M3 (ha:TV G k X a fa)(hb:TV G k X b fb)(hs:Ry b:=by intro _ _;rfl):TV G k X (.Subscript a b pos) (ai kE fa fb):=.mk<|λo=>(GH o.Ss (ha o) (hb o) hs).wk λσ H Q h=>by
 obtain⟨w,S,τ,hr,sl,q⟩:=mZ h;refine⟨w,S,τ,hr,sl,q.mono λx H1 ⟨w1,S1,fC,bH,BF,q1⟩=>⟨w1,S1,fC,bH,BF,q1.mono λy H2 f6=>?_⟩⟩
 obtain⟨w2,S2,t1,t2,dg,r1,r2,q2⟩:=f6;unfold kE at q2;split at q2
 ·rename_i m j em ej
  split at q2
  ·rename_i t et
   obtain⟨n,aK,_,_,ev,hH,R⟩:=uo dg r1 em;obtain⟨v,e2,rv⟩:=(ng (k:=j) R).1 t et
   have g:=mT.k (k:=j) hH
   rw[e2] at g;exact⟨w2.ρ n,v,ev,by rw[f9 ej r2];exact g,q2 w2 H2 v (.refl _) dg rv⟩
  ·exact q2.elim
 ·exact q2.elim
noncomputable def ux (f:Em):En->Cs->R (Option Int):=λτ S=>(f τ S).az λt S1=>match t with|.int i=>.ok (some i) S1|_=>.aA
noncomputable def Ag:En->Cs->R (Option Int):=λ_ S=>.ok none S
noncomputable def SH (G:Gx)(f:En->Cs->R (Option Int)):TO:=λσ H Q=>∃w S τ,HR G w S H/\Sl w τ σ /\ aV (λ_ a b=>a=b) G w (f τ S) Q
structure TVO (G:Gx) (k:Nat) (X:Cx) (e:Option Expr) (f:En->Cs->R (Option Int)):Prop where
 kW:jU G k X->PO X e (SH G f)
noncomputable instance {G:Gx}{k:Nat}{X:Cx}{e:Option Expr}{f:En->Cs->R (Option Int)}:CoeFun (TVO G k X e f) (λ_=>jU G k X->PO X e (SH G f)):=⟨TVO.kW⟩
theorem SI:TVO G k X none Ag:=.mk<|λo ah s σ H Q I jk=>by obtain⟨w,S,τ,hr,sl,q⟩:=jk;exact RJ ah s σ H Q I (q w H _ (.refl w) hr rfl)
theorem SJ (ha:TV G k X a fa):TVO G k X (some a) (ux fa):=.mk<|λo ah s σ H Q I ⟨w,S,τ,hr,sl,q⟩=>zH (ha o) ah s σ H Q I ⟨w,S,τ,hr,sl,(aV.az q).mono λx H1 pO=>by
 obtain⟨w1,S1,t1,cU,bH,r1,_,q1⟩:=pO;split at q1
 ·exact⟨_,aN r1,q1 w1 H1 _ (.refl _) bH rfl⟩
 ·exact q1.elim⟩
noncomputable def Ah (l:List Tr)(lo hi:Option Int):List Tr:=(l.drop (HT.gC l.length 0 lo)).take (HT.gC l.length l.length hi - HT.gC l.length 0 lo)
theorem bJ.cut (h:bJ w l xs)(lo hi:Option Int):bJ w (Ah l lo hi) (Bv xs lo hi):=by
 unfold Ah Bv;rw[h.len];exact (h.drop _).take _
noncomputable def Wb (t:Tr)(lo hi:Option Int)(S:Cs):R Tr:=match t with
 |.str z=>if z.length<=sizeLine then .ok (.str (Txt.slice z lo hi)) S else .aA
 |t=>match xA S t with
  |some l=>.ok (.ls (Ah l lo hi)) S
  |none=>match MS t with
   |some l=>if ¬ (HT.gC l.length 0 lo=0/\HT.gC l.length l.length hi=l.length) then .ok (.tp (Ah l lo hi)) S else .aA
   |none=>.aA
noncomputable def mSl (g:Tr->Option Int->Option Int->Cs->R Tr)(fa:Em)(fl fh:En->Cs->R (Option Int)):Em:=λτ S=>(fa τ S).az λt S1=>(fl τ S1).az λlo S2=>(fh τ S2).az λhi S3=>g t lo hi S3
variable {lo hi:Option Expr}{fl fh:En->Cs->R (Option Int)}
theorem M4 (h:dY G (mSl g fa fl fh) σ H Q):tSl (λx l u H3 Q=>∃w S t,HR G w S H3/\RT w t x/\aV RT G w (g t l u S) Q) (dY G fa) (SH G fl) (SH G fh) σ H Q:=by
 obtain⟨w,S,τ,hr,sl,q⟩:=h;refine⟨w,S,τ,hr,sl,(aV.az q).mono λx H1 lg=>?_⟩
 obtain⟨w1,S1,t1,cU,bH,r1,_,q1⟩:=lg;refine⟨w1,S1,τ,bH,sl.mono cU,(aV.az q1).mono λl H2 uf=>?_⟩
 obtain⟨w2,S2,t2,eB,dg,r2,_,q2⟩:=uf;refine⟨w2,S2,τ,dg,(sl.mono cU).mono eB,(aV.az q2).mono λu H3 lq=>?_⟩
 obtain⟨w3,S3,t3,iK,mz,r3,_,q3⟩:=lq;subst r2 r3;exact⟨w3,S3,t1,mz,RT.mono (eB.trans iK) _ _ r1,q3⟩
theorem ahI (ha:TV G k X a fa)(hl:TVO G k X lo fl)(hh:TVO G k X hi fh):TV G k X (.Subscript a (.Slice lo hi none p2) pos) (mSl Wb fa fl fh):=.mk<|λo =>
 (LS (r:=λx l u H Q=>∃w S t,HR G w S H/\RT w t x/\aV RT G w (Wb t l u S) Q) (λah s σ H x v vl vu lo hi sl Q I rx hs pl pu ly=>by
  obtain⟨w,S,t,hr,r,q⟩:=ly;unfold Wb at q;split at q
  ·split at q
   ·exact aaw ah s σ H x v vl vu lo hi sl Q I rx hs pl pu ⟨_,b9 r,by assumption,q w H _ (.refl w) hr k_⟩
   ·exact q.elim
  ·split at q
   ·rename_i l e
    obtain⟨a,xs,e1,sq,R⟩:=jl hr r e;rw[<-o.K] at sq;exact RO ah s σ H x v vl vu lo hi sl Q I rx hs pl pu ⟨a,xs,e1,sq,hr.jF (R.cut lo hi) rfl q⟩
   ·split at q
    ·rename_i l e
     split at q
     ·rename_i hn
      obtain⟨a,xs,e1,sq,R⟩:=g_ hr r e;rw[<-o.K] at sq;exact aah ah s σ H x v vl vu lo hi sl Q I rx hs pl pu ⟨a,xs,e1,sq,by rw[R.len];exact hn,hr.Sv (R.cut lo hi) rfl q⟩
     ·exact q.elim
    ·exact q.elim) (ha o) (hl o) (hh o)).wk λ_ _ _ h=>M4 h
end
section
variable {G:Gx}{k:Nat}{X:Cx}{a b c o e:Expr}{es:List Expr}{fa fb fc fo f:Em}{fr:En->Cs->R (List Tr)}{pos p eO fZ:Pos}{x:Str}{id T:String}
noncomputable def rN (G:Gx)(g:List Tr->Cs->R Tr):List V->Hp->VK->Prop:=λxs H Q=>∃w S ts,HR G w S H/\bJ w ts xs/\aV RT G w (g ts S) Q
noncomputable def bL (g:List Tr->Cs->R Tr)(fr:En->Cs->R (List Tr)):Em:=λτ S=>(fr τ S).az λts S1=>g ts S1
structure nh (G:Gx) (k:Nat) (f:Value) (g:List Tr->Cs->R Tr):Prop where
 kW:∀X:Cx,jU G k X->jI X f (rN G g)
noncomputable instance {G:Gx}{k:Nat}{f:Value}{g:List Tr->Cs->R Tr}:CoeFun (nh G k f g) (λ_=>∀X:Cx,jU G k X->jI X f (rN G g)):=⟨nh.kW⟩
theorem G1 (h:dY G (bL g fr) σ H Q):tCB (rN G g) (EX G fr) σ H Q:=by
 obtain⟨w,S,τ,hr,sl,q⟩:=h;exact⟨w,S,τ,hr,sl,(aV.az q).mono λxs H1 b_=>by obtain⟨w1,S1,ts,cU,bH,r1,_,q1⟩:=b_;exact⟨w1,S1,ts,bH,r1,q1⟩⟩
theorem dz (hc:nh G k (.builtin id) g)(hm:X.mg x=none)(hv:bootBuiltins x=some (.builtin id))(ha:xw G k X (e::es) fr)(hg:Gl X x:=by rfl)(hn:x ≠ "__name__" := by decide)(tP:(x == ("__debug__" : Str))=false:=by decide)
  (he:dS e=false:=by rfl) (hpl:dG es=true:=by rfl):TV G k X (.Call (.Name x p) (e::es) [] pos) (bL g fr):=.mk<|λo =>
 (Bo (hc X o) hg hm hv (ha o) hn tP (dH he) (f7 hpl)).wk λ_ _ _ h=>G1 h
theorem cI (hc:nh G k (.type T) g)(hm:X.mg x=none)(hv:bootBuiltins x=some (.type T))(ha:xw G k X (e::es) fr)(hg:Gl X x:=by rfl)(hn:x ≠ "__name__" := by decide)(tP:(x == ("__debug__" : Str))=false:=by decide)
  (he:dS e=false:=by rfl) (hpl:dG es=true:=by rfl):TV G k X (.Call (.Name x p) (e::es) [] pos) (bL g fr):=.mk<|λo =>
 (Ja (hc X o) hg hm hv (ha o) hn tP (dH he) (f7 hpl)).wk λ_ _ _ h=>G1 h
theorem fU (r:bJ w [t] xs):∃x,xs=[x]/\RT w t x:=by
 obtain⟨x,r',rfl,h1,h2⟩:=r.aY;exact⟨x,by rw[h2.bP],h1⟩
theorem sR (r:bJ w [t,u] xs):∃x y,xs=[x,y]/\RT w t x/\RT w u y:=by
 obtain⟨x,r',rfl,h1,h2⟩:=r.aY;obtain⟨y,rfl,h3⟩:=fU h2;exact⟨x,y,rfl,h1,h3⟩
noncomputable def iM:List Tr->Cs->R Tr:=λts S=>match ts with
 |[.str z]=>if z.length<=sizeLine then .ok (.int z.length) S else .aA
 |[t]=>(match BW S t with|some l=>.ok (.int l.length) S|none=>match JE S t with|some m=>.ok (.int m.length) S|none=>.aA)
 |_=>.aA
theorem kF:nh G k (.builtin "len") iM:=.mk<|λX o ah s σ H xs us Q I rv cX=>by
 obtain⟨w,S,ts,hr,r,q⟩:=cX;unfold iM at q;split at q
 ·split at q
  ·obtain⟨x,rfl,r1⟩:=fU r
   exact zU ah s σ H _ us Q I rv ⟨_,by rw[b9 r1],by assumption,q w H _ (.refl w) hr eV⟩
  ·exact q.elim
 ·obtain⟨x,rfl,r1⟩:=fU r
  split at q
  ·rename_i l e
   obtain⟨a,xs,e1,sq,R⟩:=Ab hr r1 e;rw[<-o.K] at sq;have q:=q w H (.int xs.length) (.refl w) hr (by rw[R.len];exact eV)
   exact zS ah s σ H _ us Q I rv ⟨a,xs,by rw[e1],sq,q⟩
  ·split at q
   ·rename_i m e
    obtain⟨n,aK,_,_,ev,hH,R⟩:=uo hr r1 e;have q:=q w H (.int aK.length) (.refl w) hr (by rw[R.len];exact eV)
    exact Jl ah s σ H _ us Q I rv ⟨w.ρ n,aK,by rw[ev],hH,q⟩
   ·exact q.elim
 ·exact q.elim
noncomputable def pQ:List Tr->Cs->R Tr:=λts S=>match ts with
 |[t]=>(match BW S t with|some l=>.ok (.ls l) S|none=>.aA)
 |_=>.aA
noncomputable def lB:List Tr->Cs->R Tr:=λts S=>match ts with
 |[t]=>(match xA S t with|some l=>.ok (.tp l) S|none=>match MS t with|some _=>.ok t S|none=>.aA)
 |_=>.aA
theorem qR:nh G k (.type "list") pQ:=.mk<|λX o ah s σ H xs us Q I rv dP=>by
 obtain⟨w,S,ts,hr,r,q⟩:=dP;unfold pQ at q;split at q
 ·obtain⟨x,rfl,r1⟩:=fU r
  split at q
  ·rename_i l e
   obtain⟨a,xs,e1,sq,R⟩:=Ab hr r1 e;rw[<-o.K] at sq;exact zV ah s σ H _ us Q I rv ⟨a,xs,by rw[e1],sq,hr.jF R rfl q⟩
  ·exact q.elim
 ·exact q.elim
theorem Ai:nh G k (.type "tuple") lB:=.mk<|λX o ah s σ H xs us Q I rv iy=>by
 obtain⟨w,S,ts,hr,r,q⟩:=iy;unfold lB at q;split at q
 ·obtain⟨x,rfl,r1⟩:=fU r
  split at q
  ·rename_i l e
   obtain⟨a,xs,e1,sq,R⟩:=jl hr r1 e;rw[<-o.K] at sq;exact oE ah s σ H _ us Q I rv ⟨a,xs,by rw[e1],.inl ⟨sq,hr.Sv R rfl q⟩⟩
  ·split at q
   ·rename_i l e
    obtain⟨a,xs,e1,sq,R⟩:=g_ hr r1 e;rw[<-o.K] at sq;have q:=q w H x (.refl w) hr r1
    rw[e1] at q;exact oE ah s σ H _ us Q I rv ⟨a,xs,by rw[e1],.inr ⟨sq,q⟩⟩
   ·exact q.elim
 ·exact q.elim
noncomputable def mE:List Tr->Cs->R Tr:=λts S=>match ts with
 |[.int i]=>.ok (.int i) S
 |[.bl b]=>.ok (.int (if b then 1 else 0)) S
 |_=>.aA
theorem yo:nh G k (.type "int") mE:=.mk<|λX o ah s σ H xs us Q I rv jj=>by
 obtain⟨w,S,ts,hr,r,q⟩:=jj;unfold mE at q;split at q
 ·obtain⟨x,rfl,r1⟩:=fU r
  exact xS ah s σ H _ us Q I rv (.inl ⟨_,by rw[aN r1],q w H _ (.refl w) hr eV⟩)
 ·obtain⟨x,rfl,r1⟩:=fU r
  exact xS ah s σ H _ us Q I rv (.inr ⟨_,by rw[ku r1],q w H _ (.refl w) hr eV⟩)
 ·exact q.elim
noncomputable def rK:List Tr->Option (List Int)|[]=>some []|.int i::l=>(rK l).map (i::·)|_=>none
noncomputable def rL:List Tr->Option (List Bool)|[]=>some []|.bl i::l=>(rL l).map (i::·)|_=>none
theorem B3:∀{l:List Tr} {xs:List V} {ns:List Int},rK l=some ns->bJ w l xs->xs=ns.map V.int
 |[],xs,ns,h,r=>by cases h;exact r.bP
 |t::l,xs,ns,h,r=>by
  obtain⟨x,r',rfl,h1,h2⟩:=r.aY;cases t with
  |int i =>
   cases e:rK l with
   |none=>unfold rK at h;rw[e] at h;cases h
   |some ms=>unfold rK at h;rw[e] at h;cases h;rw[B3 e h2,aN h1];rfl
  |_=>cases h
theorem B4:∀{l:List Tr} {xs:List V} {ns:List Bool},rL l=some ns->bJ w l xs->xs=ns.map V.bl
 |[],xs,ns,h,r=>by cases h;exact r.bP
 |t::l,xs,ns,h,r=>by
  obtain⟨x,r',rfl,h1,h2⟩:=r.aY;cases t with
  |bl i =>
   cases e:rL l with
   |none=>unfold rL at h;rw[e] at h;cases h
   |some ms=>unfold rL at h;rw[e] at h;cases h;rw[B4 e h2,ku h1];rfl
  |_=>cases h
noncomputable def SK:List Tr->Cs->R Tr:=λts S=>match ts with
 |[t]=>(match xA S t with|some l=>(match rK l with|some ns=>.ok (.int ns.sum) S|none=>.aA)|none=>.aA)
 |_=>.aA
theorem ahJ (hk:0<k:=by first|decide|omega):nh G k (.builtin "sum") SK:=.mk<|λX o ah s σ H xs us Q I rv lg=>by
 obtain⟨w,S,ts,hr,r,q⟩:=lg;unfold SK at q;split at q
 ·obtain⟨x,rfl,r1⟩:=fU r
  split at q
  ·rename_i l e
   split at q
   ·rename_i ns en
    obtain⟨a,xs,e1,sq,R⟩:=jl hr r1 e;rw[<-o.K,B3 en R] at sq;exact MA (o.fL hk) ah s σ H _ us Q I rv ⟨a,ns,by rw[e1],sq,q w H _ (.refl w) hr eV⟩
   ·exact q.elim
  ·exact q.elim
 ·exact q.elim
noncomputable def SM:List Tr->Cs->R Tr:=λts S=>match ts with
 |[t]=>(match E6 S t with|some l=>(match rL l with|some ns=>.ok (.bl (ns.any _root_.id)) S|none=>.aA)|none=>.aA)
 |_=>.aA
theorem ahK (hk:0<k:=by first|decide|omega):nh G k (.builtin "any") SM:=.mk<|λX o ah s σ H xs us Q I rv lq=>by
 obtain⟨w,S,ts,hr,r,q⟩:=lq;unfold SM at q;split at q
 ·obtain⟨x,rfl,r1⟩:=fU r
  split at q
  ·rename_i l e
   split at q
   ·rename_i ns en
    obtain⟨a,xs,e1,sq,R⟩:=qM hr r1 e;rw[B4 en R] at sq;exact MC (o.fL hk) ah s σ H _ us Q I rv ⟨a,ns,by rw[e1],sq,q w H _ (.refl w) hr gr⟩
   ·exact q.elim
  ·exact q.elim
 ·exact q.elim
noncomputable def Lb (S:Cs):Tr->Option String
 |.bz=>some "NoneType"
 |.bl _=>some "bool"
 |.int _=>some "int"
 |.str _=>some "str"
 |.tp _=>some "tuple"
 |.ls _=>some "list"
 |.hd n=>(match S[n]? with|some (.aM _)=>some "list" |some (.gS _)=>some "dict" |_=>none)
 |_=>none
noncomputable def oq (a u:String):Option Bool:=if a="bool" /\ u="int" then some true else if a∈["NoneType","bool","int","str","tuple","list","dict"]/\u∈["bool","int","str","tuple","list","dict"] then some (decide (a=u)) else none
theorem SN {K:W.Frag}{a u:String}{b:Bool}(h:oq a u=some b):W.kitOne K (.type a) (.type u)=some b:=by
 unfold oq at h;split at h
 ·rename_i e
  obtain⟨rfl,rfl⟩:=e;cases h;rfl
 ·split at h
  ·rename_i e
   obtain⟨e1,e2⟩:=e;simp only[zap,zaC,or_false] at e1 e2;rename_i hn;rcases e1 with rfl|rfl|rfl|rfl|rfl|rfl|rfl<;>rcases e2 with rfl|rfl|rfl|rfl|rfl|rfl<;>(first | (cases h;rfl) | (exact absurd ⟨rfl,rfl⟩ hn))
  ·cases h
theorem aba (hr:HR G w S H)(r:RT w t v)(e:Lb S t=some ty):pq G.K H v (.type ty):=by
 cases t with
 |bz=>cases e;rw[jm r];exact .bz
 |bl=>cases e;rw[ku r];exact .bl _
 |int=>cases e;rw[aN r];exact .int _
 |str=>cases e;rw[b9 r];exact .str _
 |tp l=>cases e;unfold RT at r;obtain⟨a,xs,rfl,h,_⟩:=r;exact .fP (hr.sub _ _ h)
 |ls l=>cases e;unfold RT at r;obtain⟨a,xs,rfl,h,_⟩:=r;exact .aM (hr.sub _ _ h)
 |hd n =>
  unfold Lb at e;rw[r.cK.2];dsimp only at e
  split at e
  ·rename_i l el
   cases e;obtain⟨xs,h,_⟩:=hr.cell n _ el;exact .aM h
  ·rename_i l el
   cases e;obtain⟨xs,h,_⟩:=hr.cell n _ el;exact .dK h
  ·cases e
 |kt _=>cases e
 |kl _=>cases e
noncomputable def jG (u:String)(fa:Em):Em:=λτ S=>(fa τ S).az λt S1=>match Lb S1 t with|some ty=>(match oq ty u with|some b=>.ok (.bl b) S1|none=>.aA)|none=>.aA
theorem jV {p2:Pos}(hm:X.mg "isinstance"=none)(hy:X.mg y=none)(hb:bootBuiltins y=some (.type u))(ha:TV G k X a fa)(hg:Gl X "isinstance" := by rfl)(hgy:Gl X y:=by rfl)(hn:y ≠ "__name__" := by decide)(hd:(y == ("__debug__" : Str))=false:=by decide)
  (hs:dS a=false:=by rfl):TV G k X (.Call (.Name "isinstance" p) [a,.Name y p2] [] pos) (jG u fa):=.mk<|λo =>
 (Bo Mf hg hm PyProof.Rows.boot_isinstance (pA (ha o) (pA (Q6 (v:=.ty u) hgy hy hb rfl hn hd) Es (dH rfl)) (dH hs)) (he:=dH hs) (hpl:=f7 rfl)).wk λσ H Q h=>by
  obtain⟨w,S,τ,hr,sl,q⟩:=h;refine⟨w,S,τ,hr,sl,(aV.az q).mono λx H1 ly=>?_⟩
  obtain⟨w1,S1,t1,cU,bH,r1,_,q1⟩:=ly;split at q1
  ·rename_i ty et
   split at q1
   ·rename_i b eb
    have ty:=aba bH r1 et;rw[<-o.K] at ty;exact⟨x,.ty u,u,_,b,rfl,.inl rfl,ty,SN eb,q1 w1 H1 _ (.refl _) bH gr⟩
   ·exact q1.elim
  ·exact q1.elim
noncomputable def rM (G:Gx)(g:Tr->List Tr->Cs->R Tr):V->List V->Hp->VK->Prop:=λx xs H Q=>∃w S t ts,HR G w S H/\RT w t x/\bJ w ts xs/\aV RT G w (g t ts S) Q
noncomputable def pR (ck:Cs->Tr->Bool)(g:Tr->List Tr->Cs->R Tr)(fo:Em)(fr:En->Cs->R (List Tr)):Em:=λτ S=>(fo τ S).az λt S1=>if ck S1 t=true then (fr τ S1).az λts S2=>g t ts S2 else .aA
structure E7 (G:Gx) (k:Nat) (id:String) (g:Tr->List Tr->Cs->R Tr):Prop where
 kW:∀X:Cx,jU G k X->MtR X id (rM G g)
noncomputable instance {G:Gx}{k:Nat}{id:String}{g:Tr->List Tr->Cs->R Tr}:CoeFun (E7 G k id g) (λ_=>∀X:Cx,jU G k X->MtR X id (rM G g)):=⟨E7.kW⟩
noncomputable def DY (S:Cs)(t:Tr):Bool:=(xA S t).isSome
noncomputable def ckD (S:Cs)(t:Tr):Bool:=(JE S t).isSome
noncomputable def abb (ck:Cs->Tr->Bool)(T:String):Prop:=∀(G:Gx) (w:Wd) (S:Cs) (H:Hp) (t:Tr) (v:V),HR G w S H->RT w t v->ck S t=true->tyV G.K T v H
theorem ni:abb DY "list" := λG w S H t v hr r e=>by
 unfold DY at e;obtain⟨l,el⟩:=zcm.mp e;obtain⟨a,xs,rfl,sq,_⟩:=jl hr r el;exact .inl ⟨rfl,xs,sq⟩
theorem abc (hs:dS e=false)(Jk:dG es=true)(c_:decide (es.length<29)=true):((backTo fZ (starEach (e::es) env)).all (λx=>!x.1) && (backToKw fZ (keywordEach [] env)).all (λx=>x.1.isSome)
   && decide ((e::es).length+([]:List Keyword).length+(if ([]:List Keyword).isEmpty then 0 else 1)<30))=true:=by
 have h1:dG (e::es)=true:=by show (!dS e && dG es)=true;rw[hs,Jk];rfl
 rw[BR h1];have h2:es.length<29:=of_decide_eq_true c_
 show (true && true && decide (es.length+1+0+0<30))=true
 rw[decide_eq_true (by omega)];rfl
theorem oR (pa:PlainAttrs T)(slot:Slot T name id)(hty:typeOf (.builtin id)=pure (.type "method_descriptor"))(hck:abb ck T)(hm:E7 G k id g)(ho:TV G k X o fo)(ha:xw G k X (e::es) fr)
  (tV:attributeBase o name X.env (eval o X.env)=eval o X.env:=by rfl)
  (hs:dS e=false:=by rfl) (Jk:dG es=true:=by rfl) (c_:decide (es.length<29)=true:=by rfl) (tW:(eO.endLine == fZ.line)=true:=by rfl):
  TV G k X (.Call (.Attribute o name eO) (e::es) [] fZ) (pR ck g fo fr):=.mk<|λox =>
 (agP pa slot hty (hm X ox) (ho ox) (ha ox) tV (abc hs Jk c_) tW (dH hs) (f7 Jk)).wk λσ H Q h=>by
  obtain⟨w,S,τ,hr,sl,q⟩:=h;refine⟨w,S,τ,hr,sl,(aV.az q).mono λx H1 oO=>?_⟩
  obtain⟨w1,S1,t1,cU,bH,r1,_,q1⟩:=oO;split at q1
  ·rename_i hk
   rw[ox.K];exact⟨hck G w1 S1 H1 t1 x bH r1 hk,w1,S1,τ,bH,sl.mono cU,(aV.az q1).mono λxs H2 oQ=>by obtain⟨w2,S2,ts,eB,dg,r2,_,q2⟩:=oQ;exact⟨w2,S2,t1,ts,dg,RT.mono eB _ _ r1,r2,q2⟩⟩
  ·exact q1.elim
theorem SO (pa:PlainAttrs T)(slot:Slot T name id)(hty:typeOf (.builtin id)=pure (.type "method_descriptor"))(hck:abb ck T)(hm:E7 G k id g)(ho:TV G k X o fo)
  (tV:attributeBase o name X.env (eval o X.env)=eval o X.env:=by rfl) (tW:(eO.endLine == fZ.line)=true:=by rfl):
  TV G k X (.Call (.Attribute o name eO) [] [] fZ) (pR ck g fo aj):=.mk<|λox =>
 (aam pa slot hty (hm X ox) (ho ox) tV tW).wk λσ H Q h=>by
  obtain⟨w,S,τ,hr,sl,q⟩:=h;refine⟨w,S,τ,hr,sl,(aV.az q).mono λx H1 uh=>?_⟩
  obtain⟨w1,S1,t1,cU,bH,r1,_,q1⟩:=uh;split at q1
  ·rename_i hk
   rw[ox.K];exact⟨hck G w1 S1 H1 t1 x bH r1 hk,w1,S1,t1,[],bH,r1,.nil,q1⟩
  ·exact q1.elim
noncomputable def sH:Tr->List Tr->Cs->R Tr:=λt ts S=>match t,ts with
 |.hd n,[u]=>(match cu S n with|some l=>if l.length<sizeLine then .ok .bz (S.set n (.aM (l++[u]))) else .aA|none=>.aA)
 |_,_=>.aA
noncomputable def SQ:Tr->List Tr->Cs->R Tr:=λt ts S=>match t,ts with
 |.hd n,[u]=>(match cu S n,E6 S u with|some l,some m=>if l.length+m.length<=sizeLine then .ok .bz (S.set n (.aM (l++m))) else .aA|_,_=>.aA)
 |_,_=>.aA
noncomputable def arB:Tr->List Tr->Cs->R Tr:=λt ts S=>match t,ts with
 |.hd n,[]=>(match cu S n with|some l=>.ok .bz (S.set n (.aM l.reverse))|none=>.aA)
 |_,_=>.aA
noncomputable def uy:Tr->List Tr->Cs->R Tr:=λt ts S=>match t,ts with
 |.hd n,[]=>(match cu S n with|some _=>.ok .bz (S.set n (.aM []))|none=>.aA)
 |_,_=>.aA
theorem putL (hr:HR G w S H)(e:cu S n=some l)(r:bJ w l' ys):HR G w (S.set n (.aM l')) (bu H (w.ρ n) (.aM ys)):=
 hr.zD (cF e) rfl rfl ⟨ys,au,r⟩
theorem kG:E7 G k "list.append" sH:=.mk<|λX o ah s σ H x xs v us Q I rx rv um=>by
 obtain⟨w,S,t,ts,hr,r,rs,q⟩:=um;unfold sH at q;split at q
 ·split at q
  ·rename_i l e
   split at q
   ·obtain⟨y,rfl,r1⟩:=fU rs
    obtain⟨ys,h1,h2⟩:=hr.cell _ _ (cF e)
    exact ya ah s σ H x _ v us Q I rx rv ⟨_,ys,y,r.cK.2,rfl,h1,by rw[h2.len];assumption,q w _ _ (.refl w) (putL hr e (h2.snoc r1)) qL⟩
   ·exact q.elim
  ·exact q.elim
 ·exact q.elim
theorem M5:E7 G k "list.extend" SQ:=.mk<|λX o ah s σ H x xs v us Q I rx rv E5=>by
 obtain⟨w,S,t,ts,hr,r,rs,q⟩:=E5;unfold SQ at q;split at q
 ·split at q
  ·rename_i l m e em
   split at q
   ·obtain⟨y,rfl,r1⟩:=fU rs
    obtain⟨ys,h1,h2⟩:=hr.cell _ _ (cF e)
    obtain⟨b,zs,rfl,hb,R⟩:=qM hr r1 em;exact Jf ah s σ H x _ v us Q I rx rv ⟨_,b,ys,zs,r.cK.2,rfl,h1,hb,by rw[h2.len,R.len];assumption,q w _ _ (.refl w) (putL hr e (h2.rJ R)) qL⟩
   ·exact q.elim
  ·exact q.elim
 ·exact q.elim
theorem SR:E7 G k "list.clear" uy:=.mk<|λX o ah s σ H x xs v us Q I rx rv abe=>by
 obtain⟨w,S,t,ts,hr,r,rs,q⟩:=abe;unfold uy at q;split at q
 ·split at q
  ·rename_i l e
   obtain⟨ys,h1,h2⟩:=hr.cell _ _ (cF e)
   exact LZ ah s σ H x _ v us Q I rx rv ⟨_,ys,r.cK.2,rs.bP,h1,q w _ _ (.refl w) (putL hr e .nil) qL⟩
  ·exact q.elim
 ·exact q.elim
theorem bJ.ints:∀(l:List Int),bJ w (l.map Tr.int) (l.map V.int)
 |[]=>.nil
 |x::l=>.cons eV (bJ.ints l)
end
section
variable {G:Gx}{k:Nat}{X:Cx}{a b c o e value:Expr}{es:List Expr}{fa fb fc fo fi fv f:Em}{fr:En->Cs->R (List Tr)}{pos jD p eO fZ:Pos}{x:Str}
noncomputable def bD (i:Nat):Tr->En->Cs->R En:=λt τ S=>.ok (τ.set i (some t)) S
theorem SS (hN:X.N.Nodup)(hi:X.N[i]? = some x)(hx:VC X.env.scope x)(hf:X.fn x=true\/X.env.scope.names.lookup x=some .local:=by first|exact .inl rfl|exact .inr rfl|assumption):GY G k X (.Name x pos) (bD i):=.mk<|λ_=>(Q9 hN hi hx hf).wk λv σ H Q h=>by
 obtain⟨w,S,τ,t,hr,sl,r,q⟩:=h;exact q w H _ (.refl w) hr (sl.set i r)
noncomputable abbrev Bs:=List Tr->En->Cs->R En
noncomputable def oS:Bs:=λts τ S=>match ts with|[]=>.ok τ S|_=>.aA
noncomputable def cY (b:Tr->En->Cs->R En)(r:Bs):Bs:=λts τ S=>match ts with|t::l=>(b t τ S).az λfC S1=>r l fC S1|[]=>.aA
noncomputable def Wc (G:Gx)(f:Bs):VF:=λvs σ H Q=>∃w S τ ts,HR G w S H/\Sl w τ σ /\ bJ w ts vs/\aV Sl G w (f ts τ S) Q
structure E8 (G:Gx) (k:Nat) (X:Cx) (ts:List Expr) (f:Bs):Prop where
 kW:jU G k X->QT X ts (Wc G f)
noncomputable instance {G:Gx}{k:Nat}{X:Cx}{ts:List Expr}{f:Bs}:CoeFun (E8 G k X ts f) (λ_=>jU G k X->QT X ts (Wc G f)):=⟨E8.kW⟩
theorem QT.wk (h:QT X ts t)(g:∀vs σ H Q,t' vs σ H Q->t vs σ H Q):QT X ts t':=λah s σ H vs us Q I r q=>h ah s σ H vs us Q I r (g _ _ _ _ q)
theorem G2:E8 G k X [] oS:=.mk<|λ_=>Q_.wk λvs σ H Q h=>by
 obtain⟨w,S,τ,ts,hr,sl,r,q⟩:=h;unfold oS at q;split at q
 ·exact⟨r.bP,q w H _ (.refl w) hr sl⟩
 ·exact q.elim
theorem uz {b:Tr->En->Cs->R En}(h1:GY G k X e b)(h2:E8 G k X es r)(hs:(assignEach (e::es) X.env).map (·.2)=assign e X.env::(assignEach es X.env).map (·.2):=by rfl):E8 G k X (e::es) (cY b r):=.mk<|λo=>(Lo (h1 o) (h2 o) hs).wk λvs σ H Q h=>by
 obtain⟨w,S,τ,ts,hr,sl,r,q⟩:=h;unfold cY at q;split at q
 ·obtain⟨v,vr,rfl,r1,r2⟩:=r.aY
  exact⟨v,vr,rfl,w,S,τ,_,hr,sl,r1,(aV.az q).mono λσ1 H1 b_=>by obtain⟨w1,S1,fC,cU,bH,BF,_,q1⟩:=b_;exact⟨w1,S1,fC,_,bH,BF,bJ.mono cU _ _ r2,q1⟩⟩
 ·exact q.elim
noncomputable def jM (n:Nat)(r:Bs):Tr->En->Cs->R En:=λt τ S=>match MS t with|some l=>if l.length=n then r l τ S else .aA|none=>.aA
noncomputable def G3 (n:Nat)(r:Bs):Tr->En->Cs->R En:=λt τ S=>match xA S t with|some l=>if l.length=n then r l τ S else .aA|none=>.aA
theorem lC (h:E8 G k X es r)(hn:(assignEach es X.env).length=n:=by rfl)(qy:(assignEach es X.env).findIdx? (·.1)=none:=by rfl)(hk:0<k:=by first|decide|omega):GY G k X (.Tuple es kk pos) (jM n r):=.mk<|λo=>(ZL (o.fL hk) (h o) hn qy).wk λv σ H Q h=>by
 obtain⟨w,S,τ,t,hr,sl,r,q⟩:=h;unfold jM at q;split at q
 ·rename_i l el
  split at q
  ·obtain⟨a,xs,e1,sq,R⟩:=g_ hr r el
   rw[<-o.K] at sq;exact⟨a,xs,e1,sq,by rw[R.len];assumption,w,S,τ,l,hr,sl,R,q⟩
  ·exact q.elim
 ·exact q.elim
theorem SV (h:E8 G k X es r)(hn:(assignEach es X.env).length=n:=by rfl)(qy:(assignEach es X.env).findIdx? (·.1)=none:=by rfl)(hk:0<k:=by first|decide|omega):GY G k X (.Tuple es kk pos) (G3 n r):=.mk<|λo=>(Se (o.fL hk) (h o) hn qy).wk λv σ H Q h=>by
 obtain⟨w,S,τ,t,hr,sl,r,q⟩:=h;unfold G3 at q;split at q
 ·rename_i l el
  split at q
  ·obtain⟨a,xs,e1,sq,R⟩:=jl hr r el
   rw[<-o.K] at sq;exact⟨a,xs,e1,sq,by rw[R.len];assumption,w,S,τ,l,hr,sl,R,q⟩
  ·exact q.elim
 ·exact q.elim
noncomputable def pS (fo fi:Em):Tr->En->Cs->R En:=λt τ S=>(fo τ S).az λu S1=>(fi τ S1).az λj S2=>match u,j with
 |.hd n,.int i=>(match cu S2 n with|some l=>(match zK l.length i with|some m=>.ok τ (S2.set n (.aM (l.set m t)))|none=>.aA)|none=>.aA)
 |_,_=>.aA
theorem abf (ho:TV G k X o fo)(hi:TV G k X i fi)(ha:∀v,assign (.Subscript o i pos) X.env v=(do
   let ov <-holding [v] (eval o X.env)
   let iv <-holding [v,ov] (eval i X.env)
   standAt pos
   holding [v,ov,iv] (setItem ov iv v)
   release [v,ov,iv] []):=by intro _;rfl):GY G k X (.Subscript o i pos) (pS fo fi):=.mk<|λox=>(ZM (ho ox) (hi ox) ahl ha).wk λv σ H Q h=>by
 obtain⟨w,S,τ,t,hr,sl,r,q⟩:=h;refine⟨w,S,τ,hr,sl,(aV.az q).mono λx H1 cX=>?_⟩
 obtain⟨w1,S1,t1,cU,bH,r1,_,q1⟩:=cX;refine⟨w1,S1,τ,bH,sl.mono cU,(aV.az q1).mono λy H2 dP=>?_⟩
 obtain⟨w2,S2,t2,eB,dg,r2,_,q2⟩:=dP;split at q2
 ·split at q2
  ·rename_i l el
   split at q2
   ·rename_i m em
    have r1':=(RT.mono eB _ _ r1).cK
    obtain⟨ys,h1,h2⟩:=dg.cell _ _ (cF el)
    refine⟨_,_,r1'.2,aN r2,?_⟩
    rw[h1];show match zK ys.length _ with|some j=>_|none=>False
    rw[h2.len,em];exact q2 w2 _ _ (.refl _) (putL dg el (h2.set (RT.mono (cU.trans eB) _ _ r) m)) ((sl.mono cU).mono eB)
   ·exact q2.elim
  ·exact q2.elim
 ·exact q2.elim
noncomputable def ay:Sm:=λτ S=>.nx τ S
noncomputable def ao (f g:Sm):Sm:=λτ S=>match f τ S with|.nx fC S1=>g fC S1|r=>r
noncomputable def dW (f:Em):Sm:=λτ S=>(f τ S).bQ λ_ S1=>.nx τ S1
noncomputable def aD (f:Em):Sm:=λτ S=>(f τ S).bQ λt S1=>.rt t S1
noncomputable def cy (c:En->Cs->R Bool)(f g:Sm):Sm:=λτ S=>(c τ S).bQ λb S1=>if b=true then f τ S1 else g τ S1
noncomputable def bh (i:Nat)(f:Em):Sm:=λτ S=>(f τ S).bQ λt S1=>.nx (τ.set i (some t)) S1
noncomputable def mG (f:Em)(b:Tr->En->Cs->R En):Sm:=λτ S=>(f τ S).bQ λt S1=>(b t τ S1).bQ λfC S2=>.nx fC S2
noncomputable def M6:Sm:=λτ S=>.ct τ S
variable {st:Stmt}{dm:List Stmt}{s1 s2:Sm}
theorem nj:JC G k X [] ay:=.mk<|λ_=>Q8.wk λD σ H h=>by
 obtain⟨w,S,τ,hr,sl,q⟩:=h;exact q w H σ (.refl w) hr sl
theorem jW (h:xx G k X st s1):JC G k X [st] s1:=.mk<|λo=>Gy (h o)
theorem jN (h1:xx G k X st s1)(h2:JC G k X dm s2):JC G k X (st::dm) (ao s1 s2):=.mk<|λo=>(tK (h1 o) (h2 o)).wk λD σ H h=>by
 obtain⟨w,S,τ,hr,sl,q⟩:=h;refine⟨w,S,τ,hr,sl,?_⟩
 unfold ao at q;split at q
 ·rename_i fC S1 e
  rw[e];exact λw' H' fm le xC sl'=>⟨w',S1,fC,xC,sl',bV.wd le q⟩
 ·rename_i r sA
  cases e:s1 τ S with
  |nx fC S1=>exact absurd e (sA fC S1)
  |rt t S1=>rw[e] at q;exact q
  |bk t S1=>rw[e] at q;exact q
  |ct t S1=>rw[e] at q;exact q
  |ex t S1=>rw[e] at q;exact q
  |aA=>rw[e] at q;exact q
theorem B5:xx G k X (.Continue pos) M6:=.mk<|λ_=>Bk.wk λD σ H h=>by
 obtain⟨w,S,τ,hr,sl,q⟩:=h;exact q w H σ (.refl w) hr sl
theorem SW (he:TV G k X e f)(hs:swapsWith e none pos.line X.env=pure false:=by rfl):xx G k X (.Expr e pos) (dW f):=.mk<|λo=>(Gz (he o) hs).wk λD σ H h=>by
 obtain⟨w,S,τ,hr,sl,q⟩:=h;exact⟨w,S,τ,hr,sl,(bV.az q).mono λv H1 kg=>by obtain⟨w1,S1,t1,cU,bH,r1,_,q1⟩:=kg;exact q1 w1 H1 σ (.refl _) bH (sl.mono cU)⟩
theorem lD (he:TV G k X e f):xx G k X (.Return (some e) pos) (aD f):=.mk<|λo=>(ZJ (he o)).wk λD σ H h=>by
 obtain⟨w,S,τ,hr,sl,q⟩:=h;exact⟨w,S,τ,hr,sl,(bV.az q).mono λv H1 iy=>by obtain⟨w1,S1,t1,cU,bH,r1,_,q1⟩:=iy;exact q1 w1 H1 v (.refl _) bH r1⟩
theorem rO (hc:BQ G k X c ta)(ha:JC G k X as s1)(hb:JC G k X bs s2):xx G k X (.If c as bs pos) (cy ta s1 s2):=.mk<|λo=>(af7 (hc o) (ha o) (hb o)).wk λD σ H h=>by
 obtain⟨w,S,τ,hr,sl,q⟩:=h;refine⟨w,S,τ,hr,sl,(bV.az q).mono λx H1 jj=>?_⟩
 obtain⟨w1,S1,t1,cU,bH,r1,_,q1⟩:=jj;subst r1;cases t1 with
 |true=>rw[if_pos rfl] at q1;exact BA ⟨w1,S1,τ,bH,sl.mono cU,q1⟩
 |false=>rw[if_neg zah] at q1;exact Bx ⟨w1,S1,τ,bH,sl.mono cU,q1⟩
theorem M7 (h:ML G (bh i f) D σ H):Ra (dY G f) (GA i) D σ H:=by
 obtain⟨w,S,τ,hr,sl,q⟩:=h;exact⟨w,S,τ,hr,sl,(bV.az q).mono λv H1 f6=>by obtain⟨w1,S1,t1,cU,bH,r1,_,q1⟩:=f6;exact q1 w1 H1 _ (.refl _) bH ((sl.mono cU).set i r1)⟩
theorem abg (hN:X.N.Nodup)(hi:X.N[i]? = some x)(hx:VC X.env.scope x)(he:TV G k X e f)(hs:swapsWith e (some (.Name x jD)) pos.line X.env=pure false:=by rfl)(hf:X.fn x=true\/X.env.scope.names.lookup x=some .local:=by first|exact .inl rfl|exact .inr rfl|assumption):
  xx G k X (.Assign [.Name x jD] e pos) (bh i f):=.mk<|λo=>(ZO hN hi hx (he o) hs hf).wk λ_ _ _ h=>M7 h
theorem abh {b:Tr->En->Cs->R En}(he:TV G k X e f)(hg:GY G k X tg b)(hs:swapsWithSole [tg] e pos.line X.env=pure false:=by rfl)(hw:swappedStores [tg] e X.env=pure none:=by rfl)
  (h1:(assignEach [tg] X.env).map (·.2)=[assign tg X.env]:=by rfl):xx G k X (.Assign [tg] e pos) (mG f b):=.mk<|λo=>(ZN (he o) (hg o) hs hw h1).wk λD σ H h=>by
 obtain⟨w,S,τ,hr,sl,q⟩:=h;exact⟨w,S,τ,hr,sl,(bV.az q).mono λv H1 jk=>by obtain⟨w1,S1,t1,cU,bH,r1,_,q1⟩:=jk;exact⟨w1,S1,τ,t1,bH,sl.mono cU,r1,(bV.az q1).mono λA9 H2 BV=>by obtain⟨w2,S2,ou,eB,dg,LQ,_,q2⟩:=BV;exact q2 w2 H2 A9 (.refl _) dg LQ⟩⟩
noncomputable def SX (i j:Nat)(fr:En->Cs->R (List Tr)):Sm:=λτ S=>(fr τ S).bQ λts S1=>match ts with|[t,u]=>.nx ((τ.set i (some t)).set j (some u)) S1|_=>.aA
theorem M8 {kt k2 ZQ}(hN:X.N.Nodup)(hi:X.N[i]? = some x)(hj:X.N[j]? = some y)(hij:i≠j)
  (hx:X.env.scope.names.lookup x=some .local) (hy:X.env.scope.names.lookup y=some .local) (ha:xw G k X [a,b] fr)
  (hw:swappedStores [.Tuple [.Name x px,.Name y py] kt pt] (.Tuple [a,b] k2 ZQ) X.env=pure (some [x,y]))
  (hs:swapsWithSole [.Tuple [.Name x px,.Name y py] kt pt] (.Tuple [a,b] k2 ZQ) pos.line X.env=pure false:=by rfl) (hk:0<k:=by first|decide|omega):
  xx G k X (.Assign [.Tuple [.Name x px,.Name y py] kt pt] (.Tuple [a,b] k2 ZQ) pos) (SX i j fr):=.mk<|λo=>(ZP (o.fL hk) hN hi hj hij hx hy (ha o) hw hs).wk λD σ H h=>by
 obtain⟨w,S,τ,hr,sl,q⟩:=h;refine⟨w,S,τ,hr,sl,(bV.az q).mono λvs H1 pO=>?_⟩
 obtain⟨w1,S1,ts,cU,bH,r1,_,q1⟩:=pO;split at q1
 ·obtain⟨v,u,rfl,g1,g2⟩:=sR r1
  exact⟨v,u,rfl,q1 w1 H1 _ (.refl _) bH (((sl.mono cU).set i g1).set j g2)⟩
 ·exact q1.elim
noncomputable def pT (u j t:Tr)(S:Cs):R Unit:=match u with
 |.hd n=>(match gJ j with|some q=>(match oG S n with|some m=>if m.length<sizeLine then .ok () (S.set n (.gS (d8 m q t))) else .aA|none=>.aA)|none=>.aA)
 |_=>.aA
theorem M9 {x y v:V}(hr:HR G w S H)(ru:RT w u x)(rj:RT w j y)(rt:RT w t v)(e:pT u j t S = .ok () S'):∃a H',x = .ref a/\tS H a y v H'/\HR G w S' H':=by
 unfold pT at e;split at e
 ·split at e
  ·rename_i q ek
   split at e
   ·rename_i m em
    split at e
    ·cases e
     obtain⟨aK,h1,h2⟩:=hr.cell _ _ (g9 em)
     refine⟨_,_,ru.cK.2,by rw[f9 ek rj];exact tS.k h1 (by rw[h2.len];assumption),?_⟩
     exact hr.zD (g9 em) rfl rfl ⟨_,au,h2.zD q rt⟩
    ·cases e
   ·cases e
  ·cases e
 ·cases e
noncomputable def oH (fo fi fv:Em):Sm:=λτ S=>(fv τ S).bQ λt S1=>(fo τ S1).bQ λu S2=>(fi τ S2).bQ λj S3=>(pT u j t S3).bQ λ_ S4=>.nx τ S4
theorem E9:pT u j t S ≠ .ex n S':=by
 unfold pT;split<;>(try split)<;>(try split)<;>(try split)<;>simp
theorem Aj (ho:TV G k X o fo)(hi:TV G k X i fi)(hv:TV G k X value fv)(hs:swapsWith value (some (.Subscript o i jD)) pos.line X.env=pure false:=by rfl):xx G k X (.Assign [.Subscript o i jD] value pos) (oH fo fi fv):=.mk<|λox=>(GI ox.Ss (ho ox) (hi ox) (hv ox) hs).wk λD σ H h=>by
 obtain⟨w,S,τ,hr,sl,q⟩:=h;refine⟨w,S,τ,hr,sl,(bV.az q).mono λv H1 lg=>?_⟩
 obtain⟨w1,S1,t,cU,bH,r1,_,q1⟩:=lg;refine⟨w1,S1,τ,bH,sl.mono cU,(bV.az q1).mono λx H2 uf=>?_⟩
 obtain⟨w2,S2,u,eB,dg,r2,_,q2⟩:=uf;refine⟨w2,S2,τ,dg,(sl.mono cU).mono eB,(bV.az q2).mono λy H3 lq=>?_⟩
 obtain⟨w3,S3,j,iK,mz,r3,_,q3⟩:=lq;cases e:pT u j t S3 with
 |ok z S4 =>
  rw[e] at q3;obtain⟨a,H4,e1,d,GZ⟩:=M9 mz (RT.mono iK _ _ r2) r3 (RT.mono (eB.trans iK) _ _ r1) e
  exact⟨a,H4,e1,d,q3 w3 _ σ (.refl _) GZ (((sl.mono cU).mono eB).mono iK)⟩
 |ex n S4=>exact absurd e E9
 |aA=>rw[e] at q3;exact q3.elim
noncomputable def fD (G:Gx)(cs:List Str)(f:Str):Prop:=∀c∈cs,wQ G.K (G.cl c)/\cD G.K (G.cl c) f
noncomputable def JF (cs:List Str)(f:Str)(t:Tr)(S:Cs):R Tr:=match t with
 |.hd n=>(match iV S n with|some (c,fs)=>if c∈cs then (match aH f fs with|some u=>.ok u S|none=>.aA) else .aA|none=>.aA)
 |_=>.aA
noncomputable def bB (cs:List Str)(f:Str)(fo:Em):Em:=λτ S=>(fo τ S).az λt S1=>JF cs f t S1
theorem aE {f:Str}(hf:fD G cs f)(ho:TV G k X o fo)(hb:attributeBase o f X.env (eval o X.env)=eval o X.env:=by rfl):TV G k X (.Attribute o f pos) (bB cs f fo):=.mk<|λox=>(Z5 (ho ox) hb).wk λσ H Q h=>by
 obtain⟨w,S,τ,hr,sl,q⟩:=h;refine⟨w,S,τ,hr,sl,(aV.az q).mono λx H1 ly=>?_⟩
 obtain⟨w1,S1,t1,cU,bH,r1,_,q1⟩:=ly;unfold JF at q1;split at q1
 ·split at q1
  ·rename_i c fs ei
   split at q1
   ·rename_i hc
    split at q1
    ·rename_i u eu
     obtain⟨dx,xq,h1,h2⟩:=bH.cell _ _ (fM ei)
     obtain⟨v,ev,rv⟩:=(iB (k:=f) h2).1 u eu
     obtain⟨c1,c2⟩:=hf c hc;rw[<-ox.K] at c1 c2;exact⟨_,_,dx,xq,v,r1.cK.2,h1,c1,c2,ev,q1 w1 H1 v (.refl _) bH rv⟩
    ·exact q1.elim
   ·exact q1.elim
  ·exact q1.elim
 ·exact q1.elim
noncomputable def pU (cs:List Str)(f:Str)(t v:Tr)(S:Cs):R Unit:=match t with
 |.hd n=>(match iV S n with|some (c,fs)=>if c∈cs/\fs.length<1000 then .ok () (S.set n (.fH c (cG f v fs))) else .aA|none=>.aA)
 |_=>.aA
noncomputable def cC (cs:List Str)(f:Str)(fo fv:Em):Sm:=λτ S=>(fv τ S).bQ λt S1=>(fo τ S1).bQ λu S2=>(pU cs f u t S2).bQ λ_ S3=>.nx τ S3
theorem SY {f:Str}{x y:V}(hf:fD G cs f)(hr:HR G w S H)(rt:RT w t x)(ru:RT w u y)(e:pU cs f t u S = .ok () S'):
  ∃a C dx fs,x = .ref a/\H a=some (.fH C dx fs)/\wQ G.K C/\cD G.K C f/\fs.length<1000/\HR G w S' (bu H a (.fH C dx (gE f y fs))):=by
 unfold pU at e;split at e
 ·split at e
  ·rename_i c fs ei
   split at e
   ·rename_i hc
    cases e;obtain⟨dx,xq,h1,h2⟩:=hr.cell _ _ (fM ei)
    obtain⟨c1,c2⟩:=hf c hc.1;exact⟨_,_,dx,xq,rt.cK.2,h1,c1,c2,by rw[h2.len];exact hc.2,hr.zD (fM ei) rfl rfl ⟨dx,_,au,h2.gE f ru⟩⟩
   ·cases e
  ·cases e
 ·cases e
theorem bf {f:Str}(hf:fD G cs f)(ho:TV G k X o fo)(hv:TV G k X value fv)(hs:swapsWith value (some (.Attribute o f jD)) pos.line X.env=pure false:=by rfl):xx G k X (.Assign [.Attribute o f jD] value pos) (cC cs f fo fv):=.mk<|λox=>(Z6 (ho ox) (hv ox) hs).wk λD σ H h=>by
 obtain⟨w,S,τ,hr,sl,q⟩:=h;refine⟨w,S,τ,hr,sl,(bV.az q).mono λv H1 oO=>?_⟩
 obtain⟨w1,S1,t,cU,bH,r1,_,q1⟩:=oO;refine⟨w1,S1,τ,bH,sl.mono cU,(bV.az q1).mono λx H2 oQ=>?_⟩
 obtain⟨w2,S2,u,eB,dg,r2,_,q2⟩:=oQ;cases e:pU cs f u t S2 with
 |ok z S3 =>
  rw[e] at q2;obtain⟨a,C,dx,fs,e1,h1,c1,c2,hl,mz⟩:=SY hf dg r2 (RT.mono eB _ _ r1) e
  rw[<-ox.K] at c1 c2;exact⟨a,C,dx,fs,e1,h1,c1,c2,hl,q2 w2 _ σ (.refl _) mz ((sl.mono cU).mono eB)⟩
 |ex n S3=>exact absurd e (by unfold pU;split<;>(try split)<;>(try split)<;>simp)
 |aA=>rw[e] at q2;exact q2.elim
noncomputable def yq (cs:List Str)(f:Str)(g:Int->Int->Int)(fo fv:Em):Sm:=λτ S=>(fo τ S).bQ λt S1=>match t with
 |.hd n=>(match iV S1 n with
  |some (c,fs)=>if c∈cs then (match aH f fs with
   |some (.int i)=>(fv τ S1).bQ λy S2=>(match y with
    |.int j=>(match iV S2 n with|some (c',K2)=>if c'=c/\K2.length<1000 then .nx τ (S2.set n (.fH c (cG f (.int (g i j)) K2))) else .aA|none=>.aA)
    |_=>.aA)
   |_=>.aA) else .aA
  |none=>.aA)
 |_=>.aA
theorem sS {f:Str}(hop:∀X:Cx,Rr X op (λx y H Q=>∃i j,x = .int i/\y = .int j/\Q (.int (g i j)) H))(hf:fD G cs f)(ho:TV G k X o fo)(hv:TV G k X value fv):xx G k X (.AugAssign (.Attribute o f jD) op value pos) (yq cs f g fo fv):=.mk<|λox=>(IZ (ho ox) (hv ox) (hop X)).wk λD σ H h=>by
 obtain⟨w,S,τ,hr,sl,q⟩:=h;refine⟨w,S,τ,hr,sl,(bV.az q).mono λx H1 uh=>?_⟩
 obtain⟨w1,S1,t,cU,bH,r1,_,q1⟩:=uh;split at q1
 ·rename_i n
  split at q1
  ·rename_i c fs ei
   split at q1
   ·rename_i hc
    split at q1
    ·rename_i i eu
     obtain⟨dx,xq,h1,h2⟩:=bH.cell _ _ (fM ei)
     obtain⟨v,ev,rv⟩:=(iB (k:=f) h2).1 _ eu
     obtain⟨c1,c2⟩:=hf c hc;rw[<-ox.K] at c1 c2;refine⟨_,_,dx,xq,v,r1.cK.2,h1,c1,c2,ev,w1,S1,τ,bH,sl.mono cU,(bV.az q1).mono λy H2 um=>?_⟩
     obtain⟨w2,S2,t2,eB,dg,r2,_,q2⟩:=um;split at q2
     ·rename_i j
      split at q2
      ·rename_i c' K2 ei'
       split at q2
       ·rename_i hl
        obtain⟨rfl,hl⟩:=hl;obtain⟨dx',amM,h1',G4⟩:=dg.cell _ _ (fM ei')
        have e0:=eB.r _ r1.cK.1;rw[e0] at h1';refine⟨i,_,aN rv,aN r2,dx',amM,h1',by rw[G4.len];exact hl,q2 w2 _ σ (.refl _) ?_ ((sl.mono cU).mono eB)⟩
        rw[<-e0];exact dg.zD (fM ei') rfl rfl ⟨dx',_,au,G4.gE f eV⟩
       ·exact q2.elim
      ·exact q2.elim
     ·exact q2.elim
    ·exact q1.elim
   ·exact q1.elim
  ·exact q1.elim
 ·exact q1.elim
theorem sU:∀X:Cx,Rr X .Add (λx y H Q=>∃i j,x = .int i/\y = .int j/\Q (.int (i+j)) H):=λ_=>Z7
end
structure xD where
 items:List Tr
 iC:Cs->Prop
noncomputable def S_ (G:Gx)(w:Wd)(s:xD)(J:It):Prop:=∀(w1:Wd) (S1:Cs) (H1:Hp) (i:Nat),w.K=w1.K->w.n<=w1.n->(∀i,i<w.n->w1.ρ i=w.ρ i)->(∀b o,w.F b=some o->w1.F b=some o)->HR G w1 S1 H1->s.iC S1 ->
 (∀t,s.items[i]? = some t->J.go i H1/\∀x H2,J.yld i H1 x H2->∃w2,w1.le w2/\HR G w2 S1 H2/\RT w2 t x)/\(i=s.items.length->J.stop i H1)
noncomputable def Tc (G:Gx)(f:En->Cs->R xD):TI:=λσ H Q=>∃w S τ,HR G w S H/\Sl w τ σ /\ aV (λw s J=>S_ G w s J) G w (f τ S) Q
structure M_ (G:Gx) (k:Nat) (X:Cx) (tg dX:Expr) (f:En->Cs->R xD):Prop where
 kW:jU G k X->PI X tg dX (Tc G f)
noncomputable instance {G:Gx}{k:Nat}{X:Cx}{tg dX:Expr}{f:En->Cs->R xD}:CoeFun (M_ G k X tg dX f) (λ_=>jU G k X->PI X tg dX (Tc G f)):=⟨M_.kW⟩
section
variable {G:Gx}{k:Nat}{X:Cx}{a b c o e tg:Expr}{es:List Expr}{fa fb f:Em}{fr:En->Cs->R (List Tr)}{pos p:Pos}
theorem PI.wk (h:PI X tg dX t)(g:∀ σ H Q,t' σ H Q->t σ H Q):PI X tg dX t':=λah s σ H R I q=>h ah s σ H R I (g _ _ _ q)
theorem RT.rP (hK:w.K=w1.K)(hn:w.n<=w1.n)(iI:∀i,i<w.n->w1.ρ i=w.ρ i)(hF:∀b o,w.F b=some o->w1.F b=some o)(r:RT w t v):RT w1 t v:=
 RT.mono (w:={w with hid:=w1.hid}) ⟨hK.symm,hn,iI,hF,rfl⟩ t v (RT.bw _ t v r)
theorem bJ.rP (hK:w.K=w1.K)(hn:w.n<=w1.n)(iI:∀i,i<w.n->w1.ρ i=w.ρ i)(hF:∀b o,w.F b=some o->w1.F b=some o)(r:bJ w l xs):bJ w1 l xs:=
 bJ.mono (w:={w with hid:=w1.hid}) ⟨hK.symm,hn,iI,hF,rfl⟩ l xs (bJ.bw _ l xs r)
noncomputable def iL:Tr->Cs->R xD:=λt S=>match t with
 |.ls l=>.ok ⟨l,λ_=>True⟩ S
 |.kl l=>.ok ⟨l,λ_=>True⟩ S
 |.hd n=>(match cu S n with|some l=>.ok ⟨l,λS'=>cu S' n=some l⟩ S|none=>.aA)
 |_=>.aA
noncomputable def iT:Tr->Cs->R xD:=λt S=>match t with
 |.tp l=>.ok ⟨l,λ_=>True⟩ S
 |.kt l=>.ok ⟨l,λ_=>True⟩ S
 |_=>.aA
noncomputable def qS (g:Tr->Cs->R xD)(f:Em):En->Cs->R xD:=λτ S=>(f τ S).az λt S1=>g t S1
noncomputable def ahN (G:Gx)(w:Wd)(s:xD)(a:Addr)(l:List Tr):Prop:=s.items=l/\∀(w1:Wd) (S1:Cs) (H1:Hp),w.K=w1.K->w.n<=w1.n->(∀i,i<w.n->w1.ρ i=w.ρ i)->(∀b o,w.F b=some o->w1.F b=some o)->HR G w1 S1 H1->s.iC S1->∃xs,jC G.K H1 a xs/\bJ w1 l xs
theorem Ak (hr:HR G w S H)(r:RT w t v)(e:iL t S = .ok s S'):S'=S/\∃a l,v = .ref a/\(∃xs,jC G.K H a xs/\bJ w l xs)/\ahN G w s a l:=by
 unfold iL at e;split at e
 ·cases e
  unfold RT at r;obtain⟨a,xs,rfl,h,r⟩:=r;exact⟨rfl,a,_,rfl,⟨xs,jC.of (hr.sub _ _ h),r⟩,rfl,λw1 S1 H1 hK hn iI hF bH _=>⟨xs,jC.of (bH.sub _ _ (hF _ _ h)),r.rP hK hn iI hF⟩⟩
 ·cases e
  unfold RT at r;obtain⟨a,xs,rfl,h,r⟩:=r;exact⟨rfl,a,_,rfl,⟨xs,hr.sqL h,r⟩,rfl,λw1 S1 H1 hK hn iI hF bH _=>⟨xs,bH.sqL (by rw[<-hK];exact h.mono hF),r.rP hK hn iI hF⟩⟩
 ·rename_i n
  split at e
  ·rename_i l el
   cases e;obtain⟨xs,h1,h2⟩:=hr.cell _ _ (cF el)
   have hi:=r.cK;refine⟨rfl,_,l,hi.2,⟨xs,jC.of h1,h2⟩,rfl,λw1 S1 H1 hK hn iI hF bH hc=>?_⟩
   obtain⟨ys,h3,h4⟩:=bH.cell _ _ (cF hc)
   rw[iI _ hi.1] at h3;exact⟨ys,jC.of h3,h4⟩
  ·cases e
 ·cases e
theorem Al:iL t S ≠ .ex n S':=by
 unfold iL;split<;>(try split)<;>simp
theorem Td (ha:TV G k X a fa):M_ G k X tg a (qS iL fa):=.mk<|λox=>(Rb (ha ox)).wk λσ H Q h=>by
 obtain⟨w,S,τ,hr,sl,q⟩:=h;refine⟨w,S,τ,hr,sl,(aV.az q).mono λx H1 b_=>?_⟩
 obtain⟨w1,S1,t1,cU,bH,r1,_,q1⟩:=b_;cases e:iL t1 S1 with
 |ok s S2 =>
  rw[e] at q1;obtain⟨rfl,p,l,rfl,⟨xs,sq,R⟩,ei,st⟩:=Ak bH r1 e
  refine⟨p,rfl,⟨xs,by rw[ox.K];exact sq⟩,q1 w1 H1 _ (.refl _) bH λw2 S2 H2 i hK hn iI hF dg hc=>?_⟩
  obtain⟨ys,Na,R2⟩:=st w2 S2 H2 hK hn iI hF dg hc;rw[ei];refine⟨λt et=>?_,λhi=>⟨ys,by rw[ox.K];exact Na,by rw[R2.len,hi];exact zaf _⟩⟩
  obtain⟨v,ev,rv⟩:=R2.get et;refine⟨⟨ys,v,by rw[ox.K];exact Na,ev⟩,λy H3 cX=>?_⟩
  obtain⟨e3,hy⟩:=cX;subst e3
  have:=hy ys (by rw[ox.K];exact Na)
  rw[ev] at this;cases this;exact⟨w2,.refl _,dg,rv⟩
 |ex n S2=>exact absurd e Al
 |aA=>rw[e] at q1;exact q1.elim
theorem abi (ha:TV G k X a fa):M_ G k X tg a (qS iT fa):=.mk<|λox=>(ZR (ha ox)).wk λσ H Q h=>by
 obtain⟨w,S,τ,hr,sl,q⟩:=h;refine⟨w,S,τ,hr,sl,(aV.az q).mono λx H1 dP=>?_⟩
 obtain⟨w1,S1,t1,cU,bH,r1,_,q1⟩:=dP;have go:∀{l:List Tr},MS t1=some l->aV (λw s J=>S_ G w s J) G w1 (.ok ⟨l,λ_=>True⟩ S1) Q->∃a,x = .ref a/\(∃xs,nJ X.K H1 a xs)/\Q (Itt X.K a) H1:=λ{l} el q1=>by
  obtain⟨p,xs,rfl,sq,R⟩:=g_ bH r1 el;refine⟨p,rfl,⟨xs,by rw[ox.K];exact sq⟩,q1 w1 H1 _ (.refl _) bH λw2 S2 H2 i hK hn iI hF dg hc=>?_⟩
  obtain⟨_,ys,ep,Na,R2⟩:=g_ dg (r1.rP hK hn iI hF) el
  cases ep;refine⟨λt et=>?_,λhi=>⟨ys,by rw[ox.K];exact Na,by rw[R2.len,hi];exact zaf _⟩⟩
  obtain⟨v,ev,rv⟩:=R2.get et;refine⟨⟨ys,v,by rw[ox.K];exact Na,ev⟩,λy H3 kg=>?_⟩
  obtain⟨e3,hy⟩:=kg;subst e3
  have:=hy ys (by rw[ox.K];exact Na)
  rw[ev] at this;cases this;exact⟨w2,.refl _,dg,rv⟩
 unfold iT at q1;split at q1
 ·exact go rfl q1
 ·exact go rfl q1
 ·exact q1.elim
noncomputable def sI (lo:Int)(n:Nat):List Tr:=(List.range n).map λ(j:Nat)=>Tr.int (lo+j)
noncomputable def yr (fr:En->Cs->R (List Tr)):En->Cs->R xD:=λτ S=>(fr τ S).az λts S1=>match ts with
 |[.int j]=>xu (-(2 ^ 62)<=j/\j<2 ^ 62) (.ok ⟨sI 0 j.toNat,λ_=>True⟩ S1) .aA
 |_=>.aA
theorem abj {lo:Int}:S_ G w ⟨sI lo n,λ_=>True⟩ (Itr lo n):=λw2 S2 H2 i hK hn iI hF dg hc=>by
 refine⟨λt et=>?_,λhi=>?_⟩
 ·have et:(sI lo n)[i]? = some t:=et
  unfold sI at et;rw[zas] at et;have nL:i<n:=by
   cases ec:(List.range n)[i]? with
   |none=>rw[ec] at et;cases et
   |some c=>simpa using (zae.mp ec).1
  rw[List.getElem?_range nL] at et;cases et;refine⟨nL,λy H3 f6=>?_⟩
  obtain⟨e3,ey⟩:=f6;subst e3;subst ey;exact⟨w2,.refl _,dg,eV⟩
 ·show n<=i
  have hi:i=(sI lo n).length:=hi
  unfold sI at hi;simp at hi
  omega
theorem Am (hm:X.mg "range"=none)(ha:xw G k X [a] fr)(hg:Gl X "range" := by rfl)(hs:dS a=false:=by rfl):M_ G k X tg (.Call (.Name "range" p) [a] [] pos) (yr fr):=.mk<|λox=>(IV hg hm (ha ox) (dH hs)).wk λσ H Q h=>by
 obtain⟨w,S,τ,hr,sl,q⟩:=h;refine⟨w,S,τ,hr,sl,(aV.az q).mono λxs H1 jk=>?_⟩
 obtain⟨w1,S1,ts,cU,bH,r1,_,q1⟩:=jk;split at q1
 ·unfold xu at q1
  split at q1
  ·rename_i h
   obtain⟨x,rfl,rx⟩:=fU r1;exact⟨_,by rw[aN rx],h.1,h.2,q1 w1 H1 _ (.refl _) bH abj⟩
  ·exact q1.elim
 ·exact q1.elim
noncomputable def lpS (r:RS)(g:Sm):RS:=match r with|.nx τ S=>g τ S|.ct τ S=>g τ S|.bk τ S=>.nx τ S|.rt t S=>.rt t S|.ex n S=>.ex n S|.aA=>.aA
open Classical in
noncomputable def iN (iC:Cs->Prop)(b:Tr->En->Cs->R En)(f:Sm):List Tr->En->Cs->RS
 |[],τ,S=>if iC S then .nx τ S else .aA
 |t::r,τ,S=>if iC S then (b t τ S).bQ λfC S1=>lpS (f fC S1) (iN iC b f r) else .aA
noncomputable def qT (fi:En->Cs->R xD)(b:Tr->En->Cs->R En)(f:Sm):Sm:=λτ S=>(fi τ S).bQ λs S1=>iN s.iC b f s.items τ S1
theorem Te (h:bV G w (lpS r g) D)(hN:∀w' H' fm τ S,w.le w'->HR G w' S H'->Sl w' τ fm->bV G w' (g τ S) D->N fm H'):bV G w r {D with nx:=N,ct:=N,bk:=D.nx}:=by
 cases r with
 |nx τ S=>exact λw' H' fm le hr sl=>hN w' H' fm τ S le hr sl (bV.wd le h)
 |ct τ S=>exact λw' H' fm le hr sl=>hN w' H' fm τ S le hr sl (bV.wd le h)
 |bk τ S=>exact h
 |rt τ S=>exact h
 |ex τ S=>exact h
 |aA=>exact h
theorem nk (hp:PassesOwn (model X.prog X.w) X.A X.env X.xe)(hi:M_ G k X tg dX fi)(hg:GY G k X tg bt)(hb:JC G k X body sb)(hs:∀x,foldedSetIterable dX X.env x=pure x:=by intro _;rfl)(hk:0<k:=by first|decide|omega):xx G k X (.For tg dX body [] pos) (qT fi bt sb):=.mk<|λox =>
 (ZS hp (ox.fL hk) (hi ox) (hg ox) (hb ox) hs).wk λD σ H h=>by
  obtain⟨w,S,τ,hr,sl,q⟩:=h;refine⟨w,S,τ,hr,sl,(bV.az q).mono λJ H1 ly=>?_⟩
  obtain⟨w1,S1,s,cU,bH,it,_,q1⟩:=ly;refine⟨λi m A9 H2=>∃w2 S2 ou,w1.le w2/\HR G w2 S2 H2/\Sl w2 ou A9/\i<=s.items.length/\m=s.items.length - i/\bV G w2 (iN s.iC bt sb (s.items.drop i) ou S2) D,⟨_,w1,S1,τ,.refl _,bH,sl.mono cU,zcA _,rfl,q1⟩,?_⟩
  rintro i m A9 H2 ⟨w2,S2,ou,eB,dg,LQ,hi,rfl,q2⟩
  by_cases nL:i<s.items.length
  ·have ed:s.items.drop i=s.items[i]::s.items.drop (i+1):=zcM nL
   rw[ed] at q2;unfold iN at q2;split at q2
   ·rename_i hc
    obtain⟨go,yl⟩:=(it w2 S2 H2 i eB.K.symm eB.n eB.r eB.F dg hc).1 s.items[i] (zag nL)
    refine .inr ⟨go,λfm H'=>∃m',m' < s.items.length - i/\∃w2 S2 ou,w1.le w2/\HR G w2 S2 H'/\Sl w2 ou fm/\i+1<=s.items.length/\m'=s.items.length - (i+1)/\bV G w2 (iN s.iC bt sb (s.items.drop (i+1)) ou S2) D,λfm H' h=>h,λx H' hy=>?_⟩
    obtain⟨w3,iK,mz,r3⟩:=yl x H' hy;refine⟨w3,S2,ou,_,mz,LQ.mono iK,r3,(bV.az (bV.wd iK q2)).mono λσ4 H4 ⟨w4,S4,DZ,MO,GZ,sl4,_,q4⟩=>⟨w4,S4,DZ,GZ,sl4,Te q4 λw5 H5 σ5 τ5 S5 le5 hr5 sl5 q5=>?_⟩⟩
    exact⟨_,by omega,w5,S5,τ5,((eB.trans iK).trans MO).trans le5,hr5,sl5,nL,rfl,q5⟩
   ·exact q2.elim
  ·have e:i=s.items.length:=by omega
   subst e;rw[List.drop_length] at q2;unfold iN at q2;split at q2
   ·rename_i hc
    exact .inl ⟨(it w2 S2 H2 _ eB.K.symm eB.n eB.r eB.F dg hc).2 rfl,q2 w2 H2 A9 (.refl _) dg LQ⟩
   ·exact q2.elim
end
noncomputable def Gx.nx (G:Gx):Gx:={G with E:=E0}
theorem bE.nx:bE G.nx w H a c↔bE G w H a c:=by cases c<;>exact Iff.rfl
theorem HR.nx (h:HR G w S H):HR G.nx w S H:=⟨h.K,h.n,h.F,λi c e=>bE.nx.mpr (h.cell i c e),h.inj,h.hid,h.ko,h.hl⟩
theorem HR.unx (h:HR G.nx w S H):HR G w S H:=⟨h.K,h.n,h.F,λi c e=>bE.nx.mp (h.cell i c e),h.inj,h.hid,h.ko,h.hl⟩
noncomputable def jB {α:Type}(r:R α):R α:= match r with|.ok a s=>.ok a s|_=>.aA
noncomputable def iO (fr:List Nat)(n:Nat)(τ:En):En:=(fr.map λj=>(τ[j]?).join)++List.replicate n none
noncomputable def iX:En->Cs->R Bool:=λ_ S=>.ok true S
open Classical in
noncomputable def cW (iC:Cs->Prop)(b:Tr->En->Cs->R En)(c:En->Cs->R Bool)(f:Em):List Tr->En->List Tr->Cs->R (List Tr)
 |[],_,bU,S=>if iC S then .ok bU S else .aA
 |t::r,τ,bU,S=>if iC S then (jB (b t τ S)).az λfC S1=>(jB (c fC S1)).az λx S2=>if x=true then (jB (f fC S2)).az λu S3=>(if bU.length<sizeLine then cW iC b c f r fC (bU++[u]) S3 else .aA) else cW iC b c f r fC bU S2 else .aA
noncomputable def gx (fi:En->Cs->R xD)(fr:List Nat)(n:Nat)(b:Tr->En->Cs->R En)(c:En->Cs->R Bool)(f:Em):Em:=λτ S=>(fi τ S).az λs S1=>(cW s.iC b c f s.items (iO fr n τ) [] S1).az λl S2=>.ok (.ls l) S2
noncomputable def E_ (fi:En->Cs->R xD)(fr:List Nat)(n:Nat)(b:Tr->En->Cs->R En)(c:En->Cs->R Bool)(f:Em):Em:=λτ S=>(fi τ S).az λs S1=>(cW s.iC b c f s.items (iO fr n τ) [] S1).az λl S2=>.ok (.hd S2.length) (S2++[.aM l])
structure Fb (G:Gx) (k:Nat) (X:Cx) (qI:List Expr) (c:En->Cs->R Bool):Prop where
 kW:jU G k X->EJ X qI (BP G c)
noncomputable instance {G:Gx}{k:Nat}{X:Cx}{qI:List Expr}{c:En->Cs->R Bool}:CoeFun (Fb G k X qI c) (λ_=>jU G k X->EJ X qI (BP G c)):=⟨Fb.kW⟩
section
variable {G:Gx}{k:Nat}{X:Cx}
theorem Tf:Fb G k X [] iX:=.mk<|λ_ ah s σ H Q I b_=>by obtain⟨w,S,τ,hr,sl,q⟩:=b_;exact RX ah s σ H Q I (q w H _ (.refl w) hr rfl)
theorem Tg (h:BQ G k X c t):Fb G k X [c] t:=.mk<|λo=>RY (h o)
theorem jU.comp (o:jU G k X):jU G.nx k (pI X N sc C fp s H xe):=⟨o.K,o.fL,o.room,o.un⟩
theorem Th (sl:Sl w τ σ)(j:Nat)(h:(τ[j]?).join=some t):∃v,(σ[j]?).join=some v/\RT w t v:=by
 have e:τ[j]? = some (some t):=by
  cases q:τ[j]? with
  |none=>rw[q] at h;cases h
  |some x=>rw[q] at h;cases x with
   |none=>cases h
   |some y=>cases h;rfl
 obtain⟨v,ev,rv⟩:=sl.tM j t e;exact⟨v,by rw[ev];rfl,rv⟩
theorem Sl.comp (sl:Sl w τ σ)(fr:List Nat)(T:List Str):Sl w (iO fr T.length τ) (kZ fr T σ):=by
 unfold iO kZ;refine⟨by simp,λi t e=>?_⟩
 by_cases hi:i<fr.length
 ·rw[zaj (by simpa using hi),zas] at e
  rw[zaj (by simpa using hi),zas]
  rw[zag hi] at e ⊢
  have e1:(τ[fr[i]]?).join=some t:=by simpa using e
  obtain⟨v,ev,rv⟩:=Th sl _ e1;exact⟨v,by simp[ev],rv⟩
 ·rw[zau (by simpa using hi)] at e
  rw[zcY] at e;split at e<;>cases e
variable {F T:List Str}{fr:List Nat}{sc:Scope}{yd target dX:Expr}{qI:List Expr}{pos:Pos}{fi:En->Cs->R xD}{bt:Tr->En->Cs->R En}{fc:En->Cs->R Bool}{fe:Em}
inductive abk|val|cel
noncomputable def abk.fS:abk->List Tr->Cs->R Tr|.val,l,S=>.ok (.ls l) S|.cel,l,S=>.ok (.hd S.length) (S++[.aM l])
theorem An (ce:abk)(hK:X.K=G.K)(h:dY G (λτ S=>(fi τ S).az λs S1=>(cW s.iC bt fc fe s.items (iO fr T.length τ) [] S1).az λl S2=>ce.fS l S2) σ H Q):
  GP (Tc G fi) fr T (aaX G.nx bt) (BP G.nx fc) (dY G.nx fe) σ H Q:=by
 obtain⟨w,S,τ,hr,sl,q⟩:=h;refine⟨w,S,τ,hr,sl,(aV.az q).mono λJ H1 ⟨w1,S1,s,cU,bH,it,_,q1⟩=>λD hD=>?_⟩
 have hhD:=bH.GX hD;refine⟨λi m A9 xs H2=>∃w2 S2 ou bU,w2.hid=bu w1.hid D (.aM xs)/\w2.K=w1.K/\w1.n<=w2.n/\(∀i,i<w1.n->w2.ρ i=w1.ρ i)/\(∀b o,w1.F b=some o->w2.F b=some o)/\HR G w2 S2 H2/\Sl w2 ou A9/\bJ w2 bU xs/\i<=s.items.length/\m=s.items.length - i /\
   aV RT G w1 ((cW s.iC bt fc fe (s.items.drop i) ou bU S2).az λl S3=>ce.fS l S3) Q,?_,?_⟩
 ·refine⟨_,{w1 with hid:=bu w1.hid D (.aM [])},S1,_,[],rfl,rfl,zaf _,λ_ _=>rfl,λ_ _ e=>e,bH.amI hD _ (λ_ z=>by cases z),?_,.nil,zcA _,rfl,q1⟩
  have:=(sl.mono cU).comp fr T
  exact⟨this.len,λi t e=>let ⟨v,ev,rv⟩:=this.tM i t e;⟨v,ev,RT.bw _ t v rv⟩⟩
 ·rintro i m A9 xs H2 ⟨w2,S2,ou,bU,eh,eK,hn,iI,hF,dg,LQ,ra,hi,rfl,q2⟩
  have hDx:w2.hid D=some (.aM xs):=by rw[eh];exact au
  refine⟨dg.hid D _ hDx,?_⟩
  by_cases nL:i<s.items.length
  ·have ed:s.items.drop i=s.items[i]::s.items.drop (i+1):=zcM nL
   rw[ed] at q2;unfold cW at q2;split at q2
   ·rename_i hc
    obtain⟨go,yl⟩:=(it w2 S2 H2 i eK.symm hn iI hF dg hc).1 s.items[i] (zag nL)
    refine .inr ⟨go,λfm ys H'=>∃m',m' < s.items.length - i/\∃w2 S2 ou bU,w2.hid=bu w1.hid D (.aM ys)/\w2.K=w1.K/\w1.n<=w2.n/\(∀i,i<w1.n->w2.ρ i=w1.ρ i)/\(∀b o,w1.F b=some o->w2.F b=some o)/\HR G w2 S2 H'/\Sl w2 ou fm/\bJ w2 bU ys/\i+1<=s.items.length/\m'=s.items.length - (i+1) /\
     aV RT G w1 ((cW s.iC bt fc fe (s.items.drop (i+1)) ou bU S2).az λl S3=>ce.fS l S3) Q,λfm ys H' h=>h,λx H' hy=>?_⟩
    obtain⟨w3,iK,mz,r3⟩:=yl x H' hy;refine⟨w3,S2,ou,_,mz.nx,LQ.mono iK,r3,?_⟩
    cases eb:bt s.items[i] ou S2 with
    |ok DZ S4 =>
     rw[eb] at q2;intro w4 H4 σ4 MO GZ sl4;refine⟨w4,S4,DZ,GZ,sl4,?_⟩
     have q2:aV RT G w1 (((jB (fc DZ S4)).az λx S2=>if x=true then (jB (fe DZ S2)).az λu S3=>(if bU.length<sizeLine then cW s.iC bt fc fe (s.items.drop (i+1)) DZ (bU++[u]) S3 else .aA) else cW s.iC bt fc fe (s.items.drop (i+1)) DZ bU S2).az λl S3=>ce.fS l S3) Q:=q2
     cases ec:fc DZ S4 with
     |ok bb S5 =>
      rw[ec] at q2;have q2:aV RT G w1 ((if bb=true then (jB (fe DZ S5)).az λu S3=>(if bU.length<sizeLine then cW s.iC bt fc fe (s.items.drop (i+1)) DZ (bU++[u]) S3 else .aA) else cW s.iC bt fc fe (s.items.drop (i+1)) DZ bU S5).az λl S3=>ce.fS l S3) Q:=q2
      intro w5 H5 b' le5 hr5 eb';subst eb';have Fc:=(iK.trans MO).trans le5
      have B6:w5.hid=bu w1.hid D (.aM xs)/\w5.K=w1.K/\w1.n<=w5.n/\(∀i,i<w1.n->w5.ρ i=w1.ρ i)/\(∀b o,w1.F b=some o->w5.F b=some o):=⟨Fc.hid.trans eh,Fc.K.trans eK,zai hn Fc.n,λi hi=>(Fc.r i (zan hi hn)).trans (iI i hi),λb o e=>Fc.F b o (hF b o e)⟩
      cases bb with
      |true =>
       rw[if_pos rfl] at q2;refine BA ⟨w5,S5,DZ,hr5,sl4.mono le5,?_⟩
       cases ef:fe DZ S5 with
       |ok u S6 =>
        rw[ef] at q2;have q2:aV RT G w1 ((if bU.length<sizeLine then cW s.iC bt fc fe (s.items.drop (i+1)) DZ (bU++[u]) S6 else .aA).az λl S3=>ce.fS l S3) Q:=q2
        intro w6 H6 v le6 hr6 r6;have Fd:=Fc.trans le6;split at q2
        ·rename_i c_
         have ra6:=bJ.mono Fd _ _ ra;have hD6:w6.hid D=some (.aM xs):=by rw[Fd.hid];exact hDx
         have e6:w6.hid=bu w1.hid D (.aM xs):=Fd.hid.trans eh
         refine⟨hr6.unx.hid D _ hD6,by rw[ra.len];exact c_,_,by omega,{w6 with hid:=bu w6.hid D (.aM (xs++[v]))},S6,DZ,bU++[u],?_,Fd.K.trans eK,zai hn Fd.n,λi hi=>(Fd.r i (zan hi hn)).trans (iI i hi),λb o e=>Fd.F b o (hF b o e),hr6.unx.aaU hD6 _ (λ_ z=>by cases z),?_,?_,nL,rfl,q2⟩
         ·show bu w6.hid D _=_
          rw[e6,Gs]
         ·have:=(sl4.mono le5).mono le6
          exact⟨this.len,λi t e=>let ⟨v,ev,rv⟩:=this.tM i t e;⟨v,ev,RT.bw _ t v rv⟩⟩
         ·exact bJ.bw _ _ _ (ra6.snoc r6)
        ·exact q2.elim
       |ex n S6=>rw[ef] at q2;exact q2.elim
       |aA=>rw[ef] at q2;exact q2.elim
      |false =>
       rw[if_neg zah] at q2;refine Bx ⟨_,by omega,w5,S5,DZ,bU,B6.1,B6.2.1,B6.2.2.1,B6.2.2.2.1,B6.2.2.2.2,hr5.unx,sl4.mono le5,bJ.mono Fc _ _ ra,nL,rfl,q2⟩
     |ex n S5=>rw[ec] at q2;exact q2.elim
     |aA=>rw[ec] at q2;exact q2.elim
    |ex n S4=>rw[eb] at q2;exact q2.elim
    |aA=>rw[eb] at q2;exact q2.elim
   ·exact q2.elim
  ·have e:i=s.items.length:=by omega
   subst e;rw[List.drop_length] at q2;unfold cW at q2;split at q2
   ·rename_i hc
    refine .inl ⟨(it w2 S2 H2 _ eK.symm hn iI hF dg hc).2 rfl,?_⟩
    have hF2:w2.F D=none:=by rw[dg.F];unfold Fz;rw[if_pos (.inr (by rw[hDx];simp))]
    cases ce with
    |val =>
     have q2:aV RT G w1 (.ok (.ls bU) S2) Q:=q2
     refine q2 _ _ _ ?_ (dg.aht eh hhD) ?_
     ·exact⟨eK,hn,iI,λb o e=>k9 hF2 (hF b o e),rfl⟩
     ·unfold RT
      exact⟨D,xs,rfl,au,bJ.rP (w:=w2) rfl (zaf _) (λ_ _=>rfl) (λb o e=>k9 hF2 e) ra⟩
    |cel =>
     have q2:aV RT G w1 (.ok (.hd S2.length) (S2++[.aM bU])) Q:=q2
     have lu:=({w2 with hid:=w1.hid}:Wd).uc D
     refine q2 _ _ _ ?_ (dg.So eh hhD (c:=.aM bU) rfl ⟨xs,dg.hid D _ hDx,?_⟩) ?_
     ·exact⟨eK,zai hn lu.n,λi hi=>(lu.r i (zan hi hn)).trans (iI i hi),λb o e=>hF b o e,rfl⟩
     ·exact bJ.mono lu _ _ (bJ.bw _ _ _ ra)
     ·unfold RT
      refine⟨by show S2.length<w2.n+1;rw[dg.n];exact zbi _,?_⟩
      show V.ref D=V.ref (if S2.length=w2.n then D else w2.ρ S2.length)
      rw[if_pos dg.n.symm]
   ·exact q2.elim
theorem ie (S:dc X F T fr sc)(hi:M_ G k X target dX fi)(hg:∀C fp s H xe,GY G.nx k (pI X (F++T) sc C fp s H xe) target bt)(Mb:∀C fp s H xe,Fb G.nx k (pI X (F++T) sc C fp s H xe) qI fc)
  (he:∀C fp s H xe,TV G.nx k (pI X (F++T) sc C fp s H xe) yd fe) (hs:∀x,foldedSetIterable dX X.env x=pure x:=by intro _;rfl) (hk:0<k:=by first|decide|omega):TV G k X (.ListComp yd [⟨target,dX,qI,0⟩] sc pos) (gx fi fr T.length bt fc fe):=.mk<|λo =>
 (GQ S (o.fL hk) (hi o) (λC fp s H xe=>hg C fp s H xe o.comp) (λC fp s H xe=>Mb C fp s H xe o.comp) (λC fp s H xe=>he C fp s H xe o.comp) hs).wk λ_ _ _ h=>An .val o.K h
theorem Nb (S:dc X F T fr sc)(hi:M_ G k X target dX fi)(hg:∀C fp s H xe,GY G.nx k (pI X (F++T) sc C fp s H xe) target bt)(Mb:∀C fp s H xe,Fb G.nx k (pI X (F++T) sc C fp s H xe) qI fc)
  (he:∀C fp s H xe,TV G.nx k (pI X (F++T) sc C fp s H xe) yd fe) (hs:∀x,foldedSetIterable dX X.env x=pure x:=by intro _;rfl) (hk:0<k:=by first|decide|omega):TV G k X (.ListComp yd [⟨target,dX,qI,0⟩] sc pos) (E_ fi fr T.length bt fc fe):=.mk<|λo =>
 (GQ S (o.fL hk) (hi o) (λC fp s H xe=>hg C fp s H xe o.comp) (λC fp s H xe=>Mb C fp s H xe o.comp) (λC fp s H xe=>he C fp s H xe o.comp) hs).wk λ_ _ _ h=>An .cel o.K h
theorem Ao (S:dc X F T fr sc)(hi:M_ G k X target dX fi)(hg:∀C fp s H xe,GY G.nx k (pI X (F++T) sc C fp s H xe) target bt)(Mb:∀C fp s H xe,Fb G.nx k (pI X (F++T) sc C fp s H xe) qI fc)
  (he:∀C fp s H xe,TV G.nx k (pI X (F++T) sc C fp s H xe) yd fe) (hN:X.N.Nodup) (hiy:X.N[i0]? = some y) (hly:X.env.scope.names.lookup y=some .local) (hex:X.ex=[])
  (Sg:swapsWith (.ListComp yd [⟨target,dX,qI,0⟩] sc pos) (some (.Name y py)) aaJ.line X.env=pure true:=by rfl) (hs:∀x,foldedSetIterable dX X.env x=pure x:=by intro _;rfl) (hk:0<k:=by first|decide|omega):
  xx G k X (.Assign [.Name y py] (.ListComp yd [⟨target,dX,qI,0⟩] sc pos) aaJ) (bh i0 (gx fi fr T.length bt fc fe)):=.mk<|λo =>
 (Sf S (o.fL hk) (hi o) (λC fp s H xe=>hg C fp s H xe o.comp) (λC fp s H xe=>Mb C fp s H xe o.comp) (λC fp s H xe=>he C fp s H xe o.comp) hN hiy hly hex Sg hs).wk λD σ H h=>An .val o.K (M7 h)
end
noncomputable abbrev Fn:=List Tr->Cs->R Tr
noncomputable def dU (K:W.Frag)(cl:Str->Addr)(n:Nat)(q:Fn):Sp:=λvs H Q E=>∃w S ts,HR ⟨K,cl,E⟩ w S H/\bJ w ts vs/\ts.length=n/\aV RT ⟨K,cl,E⟩ w (q ts S) Q
noncomputable def dM (n:Nat)(q:Fn)(fr:En->Cs->R (List Tr)):Em:=λτ S=>(fr τ S).az λts S1=>if ts.length=n then q ts S1 else .aA
section
variable {G:Gx}{k j n:Nat}{X:Cx}{CX:DO}{f C:Addr}{fd:FuncData}{ps:List Str}{q:Fn}{x m:Str}{p pos eO fZ:Pos}{e o:Expr}{es:List Expr}{fr:En->Cs->R (List Tr)}{fo:Em}
theorem ahP (h:dY G (dM n q fr) σ H Q):VH (dU G.K G.cl n q) [] G.E (EX G fr) σ H Q:=by
 obtain⟨w,S,τ,hr,sl,qq⟩:=h;refine⟨w,S,τ,hr,sl,(aV.az qq).mono λvs H1 b_=>?_⟩
 obtain⟨w1,S1,ts,cU,bH,r1,_,q1⟩:=b_;split at q1
 ·rename_i hn
  rw[zaw];exact⟨w1,S1,ts,bH,r1,hn,q1⟩
 ·exact q1.elim
theorem Aq (F:aQ X.prog X.w X.K X.mg X.base CX j f fd ps (dU G.K G.cl n q))(hj:j<=k)(hm:X.mg x=some (.ref f))(hk:W.keepIn X.K (.ref f)=true)(hb:fq X.K fd ps [])(hx:gF CX X G.E)(ha:xw G k X (e::es) fr)
  (hg:Gl X x:=by rfl) (tP:(x == ("__debug__" : Str))=false:=by decide) (he:dS e=false:=by rfl) (hpl:dG es=true:=by rfl) (D0:0<k:=by first|decide|omega):
  TV G k X (.Call (.Name x p) (e::es) [] pos) (dM n q fr):=.mk<|λox=>(Ru F ((ox.room D0).mono hj) hg hm hk hb .nil hx (ha ox) tP (dH he) (f7 hpl)).wk λ_ _ _ h=>ahP h
noncomputable def aR (c m:Str)(n:Nat)(q:Fn)(fo:Em)(fr:En->Cs->R (List Tr)):Em:=λτ S=>(fo τ S).az λt S1=>match t with
 |.hd i=>(match iV S1 i with
  |some (c',fs)=>if c'=c/\(aH m fs).isNone=true then (fr τ S1).az λts S2=>(if (t::ts).length=n then q (t::ts) S2 else .aA) else .aA
  |none=>.aA)
 |_=>.aA
theorem G5 (h:dY G (aR c m n q fo fr) σ H Q):GG (G.cl c) m (dU G.K G.cl n q) [] G.E (dY G fo) (EX G fr) σ H Q:=by
 obtain⟨w,S,τ,hr,sl,qq⟩:=h;refine⟨w,S,τ,hr,sl,(aV.az qq).mono λv H1 cX=>?_⟩
 obtain⟨w1,S1,t,cU,bH,r1,_,q1⟩:=cX;split at q1
 ·split at q1
  ·rename_i c' fs ei
   split at q1
   ·rename_i hc
    obtain⟨rfl,hm⟩:=hc;obtain⟨dx,xq,h1,h2⟩:=bH.cell _ _ (fM ei)
    refine⟨_,dx,xq,r1.cK.2,h1,(iB (k:=m) h2).2 (zdK.mp hm),w1,S1,τ,bH,sl.mono cU,(aV.az q1).mono λvs H2 dP=>?_⟩
    obtain⟨w2,S2,ts,eB,dg,r2,_,q2⟩:=dP;split at q2
    ·rename_i hn
     rw[zaw];exact⟨w2,S2,_,dg,.cons (RT.mono eB _ _ r1) r2,hn,q2⟩
    ·exact q2.elim
   ·exact q1.elim
  ·exact q1.elim
 ·exact q1.elim
theorem bN (hc:wQ G.K (G.cl c))(hM:dO G.K (G.cl c) m f)(F:aQ X.prog X.w X.K X.mg X.base CX j f fd ps (dU G.K G.cl n q))(hj:j<=k)(hb:fq X.K fd ps [])(hx:gF CX X G.E)(ho:TV G k X o fo)(ha:xw G k X (e::es) fr)
  (qy:dS e=false:=by rfl) (hpl:dG es=true:=by rfl)
  (ht:eval (.Call (.Attribute o m eO) (e::es) [] pos) X.env=(do
   let ov <-eval o X.env
   standAt eO.atName
   let (f,first) <-holding [ov] (getMethod ov m pl)
   callWith pos f first (backTo pos (starEach (e::es) X.env)) (backToKw pos (keywordEach [] X.env))):=by rfl) (D0:0<k:=by first|decide|omega):TV G k X (.Call (.Attribute o m eO) (e::es) [] pos) (aR c m n q fo fr):=.mk<|λox =>
 (Rv (ho ox) (by rw[ox.K];exact hc) (by rw[ox.K];exact hM) F ((ox.room D0).mono hj) hb .nil hx (ha ox) (dH qy) (f7 hpl) ht).wk λ_ _ _ h=>G5 h
theorem aW (hc:wQ G.K (G.cl c))(hM:dO G.K (G.cl c) m f)(F:aQ X.prog X.w X.K X.mg X.base CX j f fd ps (dU G.K G.cl n q))(hj:j<=k)(hb:fq X.K fd ps [])(hx:gF CX X G.E)(ho:TV G k X o fo)
  (ht:eval (.Call (.Attribute o m eO) [] [] pos) X.env=(do
   let ov <-eval o X.env
   standAt eO.atName
   let (f,first) <-holding [ov] (getMethod ov m pl)
   callWith pos f first (backTo pos (starEach [] X.env)) (backToKw pos (keywordEach [] X.env))):=by rfl) (D0:0<k:=by first|decide|omega):TV G k X (.Call (.Attribute o m eO) [] [] pos) (aR c m n q fo aj):=.mk<|λox =>
 (LF (ho ox) (by rw[ox.K];exact hc) (by rw[ox.K];exact hM) F ((ox.room D0).mono hj) hb .nil hx ht).wk λσ H Q h=>by
  obtain⟨w,S,τ,hr,sl,qq⟩:=G5 h;refine⟨w,S,τ,hr,sl,qq.mono λv H1 ⟨a,dx,fs,e1,h1,hl,⟨w1,S1,fC,bH,BF,q1⟩⟩=>⟨a,dx,fs,e1,h1,hl,?_⟩⟩
  exact q1 w1 H1 [] (.refl _) bH .nil
noncomputable def yt (c:Str)(n:Nat)(q:Fn)(fr:En->Cs->R (List Tr)):Em:=λτ S=>(fr τ S).az λts S1=>if ts.length+1=n then (q (.hd S1.length::ts) (S1++[.fH c []])).az λr S2=>(match r with|.bz=>.ok (.hd S1.length) S2|_=>.aA) else .aA
theorem Ti (h:dY G (yt c n q fr) σ H Q):VI (G.cl c) (dU G.K G.cl n q) [] G.E (EX G fr) σ H Q:=by
 obtain⟨w,S,τ,hr,sl,qq⟩:=h;refine⟨w,S,τ,hr,sl,(aV.az qq).mono λvs H1 ⟨w1,S1,ts,cU,bH,r1,_,q1⟩=>λx dx hx hdx ne=>?_⟩
 split at q1
 ·rename_i hn
  obtain⟨h2,eB⟩:=bH.lay hdx (.tw x)
  have hx2:bu H1 dx (.tw x) x=none:=by rw[av (zbg ne)];exact hx
  obtain⟨h3,iK⟩:=h2.EW hx2 (o:=.fH (G.cl c) dx []) (c:=.fH c []) rfl ⟨dx,[],au,.nil⟩
  have iI:(({w1 with F:=bu w1.F dx (.tw x)}:Wd).up x).ρ S1.length=x:=by
   show (if S1.length=w1.n then x else w1.ρ S1.length)=x
   rw[if_pos bH.n.symm]
  rw[zaw];refine⟨_,_,.hd S1.length::ts,h3,.cons ?_ (bJ.mono (eB.trans iK) _ _ r1),by simpa using hn,(aV.az (aV.wd (eB.trans iK) q1)).mono λv H4 ⟨w4,S4,t4,MO,GZ,r4,_,q4⟩=>?_⟩
  ·unfold RT
   exact⟨by show S1.length<w1.n+1;rw[bH.n];exact zbi _,by rw[iI]⟩
  ·split at q4
   ·refine⟨jm r4,q4 w4 H4 _ (.refl _) GZ ?_⟩
    have nL:S1.length<(({w1 with F:=bu w1.F dx (.tw x)}:Wd).up x).n:=by show S1.length<w1.n+1;rw[bH.n];exact zbi _
    unfold RT;exact⟨zan nL MO.n,by rw[MO.r _ nL,iI]⟩
   ·exact q4.elim
 ·exact q1.elim
theorem G6 (M:Mk G.K (G.cl c) f)(F:aQ X.prog X.w X.K X.mg X.base CX j f fd ps (dU G.K G.cl n q))(hj:j+1<=k)(hm:X.mg x=some (.ref (G.cl c)))(hb:fq X.K fd ps [])(hx:gF CX X G.E)(ha:xw G k X (e::es) fr)
  (hg:Gl X x:=by rfl) (tP:(x == ("__debug__" : Str))=false:=by decide) (he:dS e=false:=by rfl) (hpl:dG es=true:=by rfl) (D0:0<k:=by first|decide|omega):
  TV G k X (.Call (.Name x p) (e::es) [] pos) (yt c n q fr):=.mk<|λox=>(Rw (by rw[ox.K];exact M) F ((ox.room D0).mono hj) hg hm hb .nil hx (ha ox) tP (dH he) (f7 hpl)).wk λ_ _ _ h=>Ti h
noncomputable def gK (N:List Str)(ts:List Tr):En:=ts.map some++List.replicate (N.length - ts.length) none
noncomputable def dN (N:List Str)(sb:Sm):Fn:=λts S=>match sb (gK N ts) S with|.nx _ S'=>.ok .bz S' | .rt t S'=>.ok t S' | _=>.aA
theorem Sl.c9 (N:List Str)(r:bJ w ts vs):Sl w (gK N ts) (c9 N vs):=by
 unfold gK L2.c9;refine⟨by simp[r.len],λi t e=>?_⟩
 by_cases hi:i<ts.length
 ·rw[zaj (by simpa using hi),zas] at e
  rw[zaj (by rw[zad,r.len];exact hi),zas]
  cases et:ts[i]? with
  |none=>rw[et] at e;cases e
  |some u =>
   rw[et] at e;cases e;obtain⟨v,ev,rv⟩:=r.get et;exact⟨v,by rw[ev];rfl,rv⟩
 ·rw[zau (by simpa using hi)] at e
  rw[zcY] at e;split at e<;>cases e
variable {P:Program}{w:World}{K:W.Frag}{mg:Str->Option Value}{base:Heap}{cl:Str->Addr}{N:List Str}{bX:Str}{st:Stmt}{sb:Sm}
theorem aT (F:K5 K x bX st f fd)(Sc:aq N ps (ak st))
  (hb:∀fF A outer s H E,JC ⟨K,cl,E0⟩ k (jE eF P w K mg base N bX (ak st) f fF A outer s H E).DN (cV st) sb):aQ P w K mg base eF (k+1) f fd ps (dU K cl ps.length (dN N sb)):=by
 refine F.ok Sc (λvs H Q E f6=>by obtain⟨w,S,ts,hr,r,hn,_⟩:=f6;rw[r.len,hn]) λfF A outer s H vs Q E hr jk=>?_
 obtain⟨w,S,ts,QX,r,hn,q⟩:=jk;refine⟨_,hb fF A outer s H E ⟨rfl,λ_=>rfl,λ_=>hr,zcS (Nat.add_le_add_right (zbr _ _) 200) hr.un⟩,w,S,gK N ts,⟨QX.K,QX.n,QX.F,λi c e=>QX.nx.cell i c e,QX.inj,QX.hid,QX.ko,QX.hl⟩,Sl.c9 N r,?_⟩
 have conv:∀{w' S' H'},HR (⟨K,cl,E0⟩:Gx) w' S' H'->HR ⟨K,cl,E⟩ w' S' H':=λh=>HR.unx (G:=⟨K,cl,E⟩) h
 unfold dN at q;cases e:sb (gK N ts) S with
 |nx qz S'=>rw[e] at q;exact λw' H' fm le xC sl'=>q w' H' _ le (conv xC) qL
 |rt t S'=>rw[e] at q;exact λw' H' v le xC rv=>q w' H' v le (conv xC) rv
 |bk qz S'=>rw[e] at q;exact q.elim
 |ct qz S'=>rw[e] at q;exact q.elim
 |ex qz S'=>rw[e] at q;exact q.elim
 |aA=>rw[e] at q;exact q.elim
mutual
noncomputable def Tr.az (m:Nat):Tr->Bool
 |.tp l=>Tr.jX m l
 |.ls l=>Tr.jX m l
 |.kt l=>Tr.jX m l
 |.kl l=>Tr.jX m l
 |.hd n=>decide (n<m)
 |_=>true
noncomputable def Tr.jX (m:Nat):List Tr->Bool
 |[]=>true
 |t::l=>Tr.az m t && Tr.jX m l
end
mutual
theorem RT.az {w:Wd}:∀(t:Tr) (v:V),RT w t v->t.az w.n=true
 |.tp l,v,r=>by unfold RT at r;unfold Tr.az;obtain⟨_,xs,_,_,r⟩:=r;exact bJ.az l xs r
 |.ls l,v,r=>by unfold RT at r;unfold Tr.az;obtain⟨_,xs,_,_,r⟩:=r;exact bJ.az l xs r
 |.kt l,v,r=>by unfold RT at r;unfold Tr.az;obtain⟨_,xs,_,_,r⟩:=r;exact bJ.az l xs r
 |.kl l,v,r=>by unfold RT at r;unfold Tr.az;obtain⟨_,xs,_,_,r⟩:=r;exact bJ.az l xs r
 |.hd n,v,r=>by unfold Tr.az;exact decide_eq_true r.cK.1
 |.bz,v,r=>by unfold Tr.az;rfl
 |.bl _,v,r=>by unfold Tr.az;rfl
 |.int _,v,r=>by unfold Tr.az;rfl
 |.str _,v,r=>by unfold Tr.az;rfl
theorem bJ.az {w:Wd}:∀(l:List Tr) (xs:List V),bJ w l xs->Tr.jX w.n l=true
 |[],xs,r=>by unfold Tr.jX;rfl
 |t::l,xs,r=>by
  obtain⟨x,r',rfl,h1,h2⟩:=r.aY;unfold Tr.jX;rw[RT.az t x h1,bJ.az l r' h2];rfl
end
mutual
theorem RT.ow {w:Wd}{m:Nat}(hF:∀b o,w.F b=some o->F' b=some o):∀(t:Tr) (v:V),RT w t v->t.az m=true->RT {w with n:=m,F:=F' } t v
 |.tp l,v,r,h=>by unfold RT at r ⊢;unfold Tr.az at h;obtain⟨a,xs,e,s,r⟩:=r;exact⟨a,xs,e,hF _ _ s,bJ.ow hF l xs r h⟩
 |.ls l,v,r,h=>by unfold RT at r ⊢;unfold Tr.az at h;obtain⟨a,xs,e,s,r⟩:=r;exact⟨a,xs,e,hF _ _ s,bJ.ow hF l xs r h⟩
 |.kt l,v,r,h=>by unfold RT at r ⊢;unfold Tr.az at h;obtain⟨a,xs,e,s,r⟩:=r;exact⟨a,xs,e,s.mono hF,bJ.ow hF l xs r h⟩
 |.kl l,v,r,h=>by unfold RT at r ⊢;unfold Tr.az at h;obtain⟨a,xs,e,s,r⟩:=r;exact⟨a,xs,e,s.mono hF,bJ.ow hF l xs r h⟩
 |.hd n,v,r,h=>by unfold RT;unfold Tr.az at h;exact⟨of_decide_eq_true h,r.cK.2⟩
 |.bz,v,r,h=>by unfold RT at r ⊢;exact r
 |.bl _,v,r,h=>by unfold RT at r ⊢;exact r
 |.int _,v,r,h=>by unfold RT at r ⊢;exact r
 |.str _,v,r,h=>by unfold RT at r ⊢;exact r
theorem bJ.ow {w:Wd}{m:Nat}(hF:∀b o,w.F b=some o->F' b=some o):∀(l:List Tr) (xs:List V),bJ w l xs->Tr.jX m l=true->bJ {w with n:=m,F:=F' } l xs
 |[],xs,r,h=>by rw[r.bP];exact .nil
 |t::l,xs,r,h=>by
  obtain⟨x,r',rfl,h1,h2⟩:=r.aY;unfold Tr.jX at h;have h:=zbk.mp h;exact .cons (RT.ow hF t x h1 h.1) (bJ.ow hF l r' h2 h.2)
end
noncomputable def ahQ (m:Nat):Ce->Bool
 |.ua=>true
 |.aM l=>Tr.jX m l
 |.gS l=>Tr.jX m (l.map Prod.snd)
 |.fH _ l=>Tr.jX m (l.map Prod.snd)
 |.xm _ l=>Tr.jX m (l.map Prod.snd)
 |.i7 l=>Tr.jX m (l.map Prod.snd)
 |.xo l=>Tr.jX m (l.map Prod.snd)
 |.sG l=>Tr.jX m (l.map Prod.snd)
theorem bE.az {w:Wd}(h:bE G w H a c):ahQ w.n c=true:=by
 cases c with
 |ua=>rfl
 |aM l=>obtain⟨xs,_,r⟩:=h;exact bJ.az _ _ r
 |gS l=>obtain⟨xs,_,r⟩:=h;exact bJ.az _ _ r.2
 |fH c l=>obtain⟨_,xs,_,r⟩:=h;exact bJ.az _ _ r.2
 |xm c l=>obtain⟨_,_,xs,_,_,_,_,_,r⟩:=h;exact bJ.az _ _ r.2
 |i7 l=>obtain⟨xs,_,r⟩:=h;exact bJ.az _ _ r.2
 |xo l=>obtain⟨_,xs,_,r⟩:=h;exact bJ.az _ _ r.2
 |sG l=>obtain⟨_,xs,_,r⟩:=h;exact bJ.az _ _ r.2
theorem bE.cut {w:Wd}{m:Nat}(hF:∀b o,w.F b=Option.some o->F' b=Option.some o)(h:bE G w H a c)(hb:ahQ m c=true):bE G {w with n:=m,F:=F' } H a c:=by
 cases c with
 |ua=>trivial
 |aM l=>obtain⟨xs,e,r⟩:=h;exact⟨xs,e,bJ.ow hF _ _ r hb⟩
 |gS l=>obtain⟨xs,e,r⟩:=h;exact⟨xs,e,r.1,bJ.ow hF _ _ r.2 hb⟩
 |fH c l=>obtain⟨dx,xs,e,r⟩:=h;exact⟨dx,xs,e,r.1,bJ.ow hF _ _ r.2 hb⟩
 |xm c l=>obtain⟨T,d,xs,e,e2,e3,n1,n2,r⟩:=h;exact⟨T,d,xs,e,hF _ _ e2,hF _ _ e3,n1,n2,r.1,bJ.ow hF _ _ r.2 hb⟩
 |i7 l=>obtain⟨xs,e,r⟩:=h;exact⟨xs,e,r.1,bJ.ow hF _ _ r.2 hb⟩
 |xo l=>obtain⟨o,xs,e,r⟩:=h;exact⟨o,xs,hF _ _ e,r.1,bJ.ow hF _ _ r.2 hb⟩
 |sG l=>obtain⟨o,xs,e,r⟩:=h;exact⟨o,xs,hF _ _ e,r.1,bJ.ow hF _ _ r.2 hb⟩
noncomputable def B7 (m:Nat)(S:Cs)(t:Tr):Option Tr:=match t with
 |.hd n=>if n<m then some (.hd n) else (match cu S n with|some l=>if Tr.jX m l=true then some (.ls l) else none|none=>none)
 |t=>if t.az m=true then some t else none
open Classical in
noncomputable def rQ (q:Fn):Fn:=λts S=>match q ts S with
 |.ok t S1=>if S1.take S.length=S then (match B7 S.length S1 t with|some u=>.ok u S|none=>.aA) else .aA
 |.ex n S1=>.ex n S1
 |.aA=>.aA
open Classical in
theorem Tj {H:Hp}(h:dU K cl n (rQ q) vs H Q E):dU K cl n q vs H Q E:=by
 obtain⟨w,S,ts,hr,r,hn,qq⟩:=h;refine⟨w,S,ts,hr,r,hn,?_⟩
 unfold rQ at qq;cases e:q ts S with
 |ex m S1=>rw[e] at qq;exact qq
 |aA=>rw[e] at qq;exact qq
 |ok t S1 =>
  rw[e] at qq;have qq:aV RT ⟨K,cl,E⟩ w (if S1.take S.length=S then (match B7 S.length S1 t with|some u=>.ok u S|none=>.aA) else .aA) Q:=qq
  split at qq
  ·rename_i hS
   split at qq
   ·rename_i u eu
    intro w1 H1 v cU bH rv;have hm:S.length<=S1.length:=by
     have:=congrArg List.length hS
     rw[zaG] at this;omega
    have hF:∀b o,w1.F b=some o->Fz w1.ρ w1.hid (S1.take S.length) H1 b=some o:=λb o e=>aaW b o (by rw[<-bH.F];exact e)
    have dg:=bH.cut hm λi c ec=>by
     have hi:=(zae.mp ec).1
     rw[zaG] at hi;have ec1:S1[i]? = some c:=by rw[zbK (by omega)] at ec;exact ec
     rw[hS] at ec;have hb:=(hr.cell i c ec).az
     rw[hr.n] at hb;exact (bH.cell i c ec1).cut hF hb
    have eB:w.le {w1 with n:=S.length,F:=Fz w1.ρ w1.hid (S1.take S.length) H1}:=⟨cU.K,by show w.n<=S.length;rw[hr.n];exact zaf _,cU.r,λb o e=>hF b o (cU.F b o e),cU.hid⟩
    rw[hS] at dg eB hF;refine qq _ _ _ eB dg ?_
    unfold B7 at eu;split at eu
    ·rename_i n
     split at eu
     ·cases eu
      rename_i nL;unfold RT;exact⟨nL,rv.cK.2⟩
     ·rename_i hge
      split at eu
      ·rename_i l el
       split at eu
       ·rename_i hb
        cases eu;obtain⟨xs,h1,h2⟩:=bH.cell _ _ (cF el)
        have lv:fu S1 n:=⟨_,cF el,rfl⟩
        unfold RT;refine⟨_,xs,rv.cK.2,?_,bJ.ow hF _ _ h2 hb⟩
        show Fz w1.ρ w1.hid S H1 (w1.ρ n)=_
        unfold Fz;rw[if_neg,h1];rintro (⟨i,li,ei⟩|z)
        ·have li1:fu S1 i:=by
          obtain⟨c,ec,nc⟩:=li;have hi:=(zae.mp ec).1
          rw[<-hS,zbK (by omega)] at ec
          exact⟨c,ec,nc⟩
         have:=bH.inj i n li1 lv ei
         subst this;exact hge li.lt
        ·exact z (bH.ko n lv)
       ·cases eu
      ·cases eu
    ·split at eu
     ·cases eu
      exact RT.ow hF _ _ rv (by assumption)
     ·cases eu
   ·exact qq.elim
  ·exact qq.elim
theorem aQ.pure (F:aQ P w K mg base CX j f fd ps (dU K cl n q)):aQ P w K mg base CX j f fd ps (dU K cl n (rQ q)):=F.imp λ_ _ _ _ h=>Tj h
end
section
variable {G:Gx}{k:Nat}{X:Cx}{a b c o e kx vx:Expr}{es:List Expr}{ks:List (Option Expr)}{vs:List Expr}{fo fe ff fk fv:Em}{pos eO fZ:Pos}
noncomputable def Fe:Em:=λ_ S=>.ok (.hd S.length) (S++[.gS []])
theorem Nc:TV G k X (.Dict [] [] pos) Fe:=.mk<|λ_=>LN.wk λσ H Q h=>by
 obtain⟨w,S,τ,hr,sl,q⟩:=h;intro p hp;obtain⟨h2,le⟩:=hr.EW (c:=.gS []) hp (o:=.dK []) rfl ⟨[],au,.nil⟩
 refine q _ _ _ le h2 ?_
 unfold RT;exact⟨by show S.length<w.n+1;rw[hr.n];exact zbi _,by show V.ref p=V.ref (if S.length=w.n then p else w.ρ S.length);rw[if_pos hr.n.symm]⟩
noncomputable def JG:List (Em×Em)->En->Cs->R (List (dh×Tr))
 |[],_,S=>.ok [] S
 | (fk,fv)::r,τ,S=>(fk τ S).az λt S1=>(fv τ S1).az λu S2=>(JG r τ S2).az λl S3=>match gJ t with|some j=>.ok ((j,u)::l) S3|none=>.aA
noncomputable def jn (ps:List (Em×Em)):Em:=λτ S=>(JG ps τ (S++[.gS []])).az λl S1=>match oG S1 S.length with
 |some []=>if l.length<=15 then .ok (.hd S.length) (S1.set S.length (.gS (eW [] l))) else .aA
 |_=>.aA
noncomputable def Nd (G:Gx)(ps:List (Em×Em)):List (TE×TE):=ps.map λp=>(dY G p.1,dY G p.2)
structure TVP (G:Gx) (k:Nat) (X:Cx) (pos:Pos) (ks:List (Option Expr)) (vs:List Expr) (ps:List (Em×Em)):Prop where
 kW:jU G k X->PPs X pos ks vs (Nd G ps)
noncomputable instance {G:Gx}{k:Nat}{X:Cx}{pos:Pos}{ks:List (Option Expr)}{vs:List Expr}{ps:List (Em×Em)}:CoeFun (TVP G k X pos ks vs ps) (λ_=>jU G k X->PPs X pos ks vs (Nd G ps)):=⟨TVP.kW⟩
theorem oU:TVP G k X pos [] [] []:=.mk<|λ_=>RC
theorem Ar (hk:TV G k X kx fk)(hv:TV G k X vx fv)(hr:TVP G k X pos ks vs ps):TVP G k X pos (some kx::ks) (vx::vs) ((fk,fv)::ps):=.mk<|λo=>LP (hk o) (hv o) (hr o)
theorem Nf:∀(ps:List (Em×Em)) {w:Wd} {S:Cs} {τ:En} {σ:St} {H:Hp} {Q:List (V×V)->Hp->Prop},HR G w S H->Sl w τ σ ->
  aV (λw (l:List (dh×Tr)) (m:List (V×V))=>∃aK,m=aK.map (λkv=>(kV kv.1,kv.2))/\RK w l aK) G w (JG ps τ S) Q->zG (Nd G ps) σ H Q
 |[],w,S,τ,σ,H,Q,hr,sl,q=>q w H [] (.refl w) hr ⟨[],rfl,.nil⟩
 | (fk,fv)::r,w,S,τ,σ,H,Q,hr,sl,q=>by
  refine⟨w,S,τ,hr,sl,(aV.az q).mono λx H1 b_=>?_⟩
  obtain⟨w1,S1,t,cU,bH,r1,_,q1⟩:=b_;refine⟨w1,S1,τ,bH,sl.mono cU,(aV.az q1).mono λy H2 cX=>?_⟩
  obtain⟨w2,S2,u,eB,dg,r2,_,q2⟩:=cX;refine Nf r dg ((sl.mono cU).mono eB) ((aV.az q2).mono λm H3 dP=>?_)
  obtain⟨w3,S3,l,iK,mz,⟨aK,em,rk⟩,_,q3⟩:=dP
  split at q3
  ·rename_i j ej
   refine q3 w3 H3 _ (.refl _) mz ⟨(j,y)::aK,?_,.cons (RT.mono iK _ _ r2) rk⟩
   rw[em,zat,f9 ej r1]
  ·exact q3.elim
theorem As (h:TVP G k X pos ks vs ps)(Ex:ks.all (·.isSome)=true:=by rfl)(hl:ks.length=vs.length:=by rfl)(h0:ks≠[]:=by simp)(h15:ks.length<=15:=by decide):TV G k X (.Dict ks vs pos) (jn ps):=.mk<|λox=>(RD (h ox) Ex hl h0 h15).wk λσ H Q h=>by
 obtain⟨w,S,τ,hr,sl,q⟩:=h;intro p hp;obtain⟨h2,le⟩:=hr.EW (c:=.gS []) hp (o:=.dK []) rfl ⟨[],au,.nil⟩
 have nL:S.length<(w.up p).n:=by show S.length<w.n+1;rw[hr.n];exact zbi _
 have iI:(w.up p).ρ S.length=p:=by show (if S.length=w.n then p else w.ρ S.length)=p;rw[if_pos hr.n.symm]
 refine Nf ps h2 (sl.mono le) ((aV.az (aV.wd le q)).mono λm H2 kg=>?_)
 obtain⟨w2,S2,l,eB,dg,⟨aK,em,rk⟩,_,q2⟩:=kg
 split at q2
 ·rename_i ed
  split at q2
  ·rename_i h15
   obtain⟨arL,h3,h4⟩:=dg.cell _ _ (g9 ed)
   have abl:w2.ρ S.length=p:=(eB.r _ nL).trans iI
   rw[abl,h4.bP] at h3;refine⟨h3,aK,em,by rw[rk.len];exact h15,?_⟩
   have h5:HR G w2 (S2.set S.length (.gS (eW [] l))) (bu H2 (w2.ρ S.length) (.dK (gn [] aK))):=dg.zD (g9 ed) rfl rfl ⟨_,au,RK.Bt rk .nil⟩
   rw[abl] at h5;refine q2 w2 _ _ (.refl _) h5 ?_
   unfold RT;exact⟨zan nL eB.n,by rw[abl]⟩
  ·exact q2.elim
 ·exact q2.elim
noncomputable def G7 (fo fe ff:Em):Em:=λτ S=>(fo τ S).az λt S1=>if ckD S1 t=true then (fe τ S1).az λj S2=>(ff τ S2).az λu S3=>(match JE S3 t,gJ j with|some m,some q=>.ok ((aH q m).getD u) S3|_,_=>.aA) else .aA
theorem abm (hr:HR G w S H)(r:RT w t v)(h:ckD S t=true):∃n,t = .hd n/\v = .ref (w.ρ n)/\IsD H (w.ρ n):=by
 unfold ckD at h;obtain⟨m,em⟩:=zcm.mp h;obtain⟨n,aK,e1,_,e2,h1,_⟩:=uo hr r em;exact⟨n,e1,e2,.inl ⟨aK,.inl h1⟩⟩
theorem JH {j:dh}(R:RK w m aK)(ru:RT w u z):RT w ((aH j m).getD u) ((mq aK j).getD z):=by
 obtain⟨h1,h2⟩:=ng (k:=j) R
 cases e:aH j m with
 |none=>rw[h2 e];exact ru
 |some t=>obtain⟨v,ev,rv⟩:=h1 t e;rw[ev];exact rv
theorem G8 (ho:TV G k X o fo)(he:TV G k X e fe)(hf:TV G k X c ff)(m:M2 X o "get" eO e c fZ:=by exact⟨rfl,rfl,rfl,rfl⟩):TV G k X (.Call (.Attribute o "get" eO) [e,c] [] fZ) (G7 fo fe ff):=.mk<|λox=>(Bu ox.Ss (ho ox) (he ox) (hf ox) m).wk λσ H Q h=>by
 obtain⟨w,S,τ,hr,sl,q⟩:=h;refine⟨w,S,τ,hr,sl,(aV.az q).mono λx H1 iy=>?_⟩
 obtain⟨w1,S1,t,cU,bH,r1,_,q1⟩:=iy;split at q1
 ·rename_i hck
  obtain⟨n,rfl,e2,hd⟩:=abm bH r1 hck;refine⟨_,e2,hd,w1,S1,τ,bH,sl.mono cU,(aV.az q1).mono λy H2 jj=>?_⟩
  obtain⟨w2,S2,j,eB,dg,r2,_,q2⟩:=jj;refine⟨w2,S2,τ,dg,(sl.mono cU).mono eB,(aV.az q2).mono λz H3 f6=>?_⟩
  obtain⟨w3,S3,u,iK,mz,r3,_,q3⟩:=f6;split at q3
  ·rename_i mm qk em ek
   obtain⟨n',aK,e4,_,_,h4,R⟩:=uo mz (RT.mono (eB.trans iK) _ _ r1) em
   cases e4;rw[(eB.trans iK).r _ r1.cK.1] at h4;refine⟨mq aK qk,by rw[f9 ek (RT.mono iK _ _ r2)];exact mT.k h4,q3 w3 H3 _ (.refl _) mz (JH R r3)⟩
  ·exact q3.elim
 ·exact q1.elim
noncomputable def abn (f:Em):Em:=λτ S=>(f τ S).az λt S1=>match t with
 |.str x=>if x.length<=sizeLine then .ok (.str x) S1 else .aA
 |.int i=>if i.natAbs.log2<1920 then .ok (.str (toString i)) S1 else .aA
 |_=>.aA
theorem abo (h:TV G k X a fo):TV G k X (.FormattedValue a (-1) none pos) (abn fo):=.mk<|λox=>(aaE (h ox)).wk λσ H Q h=>by
 obtain⟨w,S,τ,hr,sl,q⟩:=h;refine⟨w,S,τ,hr,sl,(aV.az q).mono λx H1 pO=>?_⟩
 obtain⟨w1,S1,t,cU,bH,r1,_,q1⟩:=pO;split at q1
 ·split at q1
  ·exact .inl ⟨_,b9 r1,by assumption,q1 w1 H1 _ (.refl _) bH k_⟩
  ·exact q1.elim
 ·split at q1
  ·exact .inr ⟨_,aN r1,by assumption,q1 w1 H1 _ (.refl _) bH k_⟩
  ·exact q1.elim
 ·exact q1.elim
noncomputable def fJ:List Em->Str->Em
 |[],bU,_,S=>if bU.length<=sizeLine then .ok (.str bU) S else .aA
 |f::r,bU,τ,S=>(f τ S).az λt S1=>match t with|.str y=>if (bU++y).length<=sizeLine then fJ r (bU++y) τ S1 else .aA|_=>.aA
structure TVJ (G:Gx) (k:Nat) (X:Cx) (es:List Expr) (fs:List Em):Prop where
 kW:jU G k X->PJ X es (λbU=>dY G (fJ fs bU))
noncomputable instance {G:Gx}{k:Nat}{X:Cx}{es:List Expr}{fs:List Em}:CoeFun (TVJ G k X es fs) (λ_=>jU G k X->PJ X es (λbU=>dY G (fJ fs bU))):=⟨TVJ.kW⟩
theorem abp:TVJ G k X [] []:=.mk<|λ_ bU ah s σ H Q I ⟨w,S,τ,hr,sl,q⟩=>aaG bU ah s σ H Q I (by
 unfold fJ at q;split at q
 ·exact⟨by assumption,q w H _ (.refl w) hr k_⟩
 ·exact q.elim)
theorem Tn (h1:TV G k X e f)(h2:TVJ G k X es fs):TVJ G k X (e::es) (f::fs):=.mk<|λox bU ah s σ H Q I ⟨w,S,τ,hr,sl,q⟩=>R_ (h1 ox) (h2 ox) bU ah s σ H Q I ⟨w,S,τ,hr,sl,(aV.az q).mono λx H1 lq=>by
 obtain⟨w1,S1,t,cU,bH,r1,_,q1⟩:=lq;split at q1
 ·split at q1
  ·exact⟨_,b9 r1,by assumption,w1,S1,τ,bH,sl.mono cU,q1⟩
  ·exact q1.elim
 ·exact q1.elim⟩
theorem To (h:TVJ G k X (a::b::es) fs):TV G k X (.JoinedStr (a::b::es) pos) (fJ fs Str.empty):=.mk<|λox=>Sa (h ox)
end
structure nN (K:W.Frag) (mg:Str->Option Value) (x:Str) (st:Stmt) (ps:List Str) (f:Addr) (fd:FuncData):Prop where
 F:K5 K x x st f fd
 m:mg x=some (.ref f)
 b:fq K fd ps []
structure lW (K:W.Frag) (C:Addr) (x bX:Str) (st:Stmt) (ps:List Str) (f:Addr) (fd:FuncData):Prop where
 F:K5 K x bX st f fd
 M:dO K C x f
 b:fq K fd ps []
structure We (K:W.Frag) (mg:Str->Option Value) (x:Str) (C f:Addr):Prop where
 m:mg x=some (.ref C)
 c:wQ K C
 k:Mk K C f
theorem amO {K:W.Frag}{st:Stmt}(F:K5 K x bX st f fd)(Sc:aq N ps (ak st)):aQ P w K mg base CX j f fd ps (dU K cl n λ_ _=>.aA):=
 ⟨λ_ _ _ _ oO=>by obtain⟨_,_,_,_,_,_,q⟩:=oO;exact q.elim,λ_ _ _ _ _ _ _ _ _ _ _ _ _ oQ=>by obtain⟨_,_,_,_,_,_,q⟩:=oQ;exact q.elim⟩
theorem aG:gF eF X E:=λ_ _ _ _ _ _ _ h=>h.elim
noncomputable def RS.seq (r:RS)(g:Sm):RS:=match r with|.nx fC S1=>g fC S1|r=>r
noncomputable def RS.fS (r:RS):R Tr:=match r with|.nx _ S'=>.ok .bz S' | .rt t S'=>.ok t S' | _=>.aA
theorem abq (f g:Sm)(τ:En)(S:Cs):ao f g τ S=(f τ S).seq g:=rfl
theorem B8 (N:List Str)(sb:Sm)(ts:List Tr)(S:Cs):dN N sb ts S=(sb (gK N ts) S).fS:=rfl
theorem Tp {α β:Type}{c:Prop}(a b:R α)(k:α -> Cs->R β):(xu c a b).az k=xu c (a.az k) (b.az k):=by unfold xu;split<;>rfl
theorem Ng {α:Type}{c:Prop}(a b:R α)(k:α -> Cs->RS):(xu c a b).bQ k=xu c (a.bQ k) (b.bQ k):=by unfold xu;split<;>rfl
theorem Tq {c:Prop}(a b:RS)(g:Sm):(xu c a b).seq g=xu c (a.seq g) (b.seq g):=by unfold xu;split<;>rfl
theorem Tt {c:Prop}(a b:RS):(xu c a b).fS=xu c a.fS b.fS:=by unfold xu;split<;>rfl
theorem abr (τ:En)(S:Cs)(g:Sm):(RS.nx τ S).seq g=g τ S:=rfl
theorem abt (t:Tr)(S:Cs)(g:Sm):(RS.rt t S).seq g = .rt t S:=rfl
theorem Tu (g:Sm):RS.aA.seq g = .aA:=rfl
theorem abu (τ:En)(S:Cs):(RS.nx τ S).fS = .ok .bz S:=rfl
theorem uA (t:Tr)(S:Cs):(RS.rt t S).fS = .ok t S:=rfl
theorem Tv:RS.aA.fS = .aA:=rfl
theorem Wf (τ:En)(S:Cs)(g:Sm):lpS (.nx τ S) g=g τ S:=rfl
theorem ahR (τ:En)(S:Cs)(g:Sm):lpS (.ct τ S) g=g τ S:=rfl
theorem ahS (t:Tr)(S:Cs)(g:Sm):lpS (.rt t S) g = .rt t S:=rfl
theorem bO {n:Nat}(h:n<=1000000):(n<=sizeLine)=True:=eq_true (zai h (by decide))
theorem iP {n:Nat}(h:n<1000000):(n<sizeLine)=True:=eq_true (zan h (by decide))
theorem ig {α:Type}(a:α)(S:Cs):jB (.ok a S) = .ok a S:=rfl
theorem abv {p:Prop}[Decidable p]:(decide p=true)=p:=propext decide_eq_true_iff
theorem ahT {α:Type}(a b:α):(if True then a else b)=a:=if_pos trivial
theorem amP {α:Type}(a b:α):(if False then a else b)=b:=if_neg id
theorem Nh {b:Tr->En->Cs->R En}{f:Sm}{τ:En}{S:Cs}:iN (λ_=>True) b f [] τ S = .nx τ S:=by unfold iN;rw[if_pos trivial]
theorem JI {b:Tr->En->Cs->R En}{f:Sm}{t:Tr}{r:List Tr}{τ:En}{S:Cs}:iN (λ_=>True) b f (t::r) τ S=(b t τ S).bQ λfC S1=>lpS (f fC S1) (iN (λ_=>True) b f r):=by
 conv=>lhs;unfold iN
 rw[if_pos trivial]
theorem yu {b:Tr->En->Cs->R En}{c:En->Cs->R Bool}{f:Em}{τ:En}{bU:List Tr}{S:Cs}:cW (λ_=>True) b c f [] τ bU S = .ok bU S:=by unfold cW;rw[if_pos trivial]
theorem uB {b:Tr->En->Cs->R En}{c:En->Cs->R Bool}{f:Em}{t:Tr}{r:List Tr}{τ:En}{bU:List Tr}{S:Cs}:cW (λ_=>True) b c f (t::r) τ bU S =
  (jB (b t τ S)).az λfC S1=>(jB (c fC S1)).az λx S2=>if x=true then (jB (f fC S2)).az λu S3=>(if bU.length<sizeLine then cW (λ_=>True) b c f r fC (bU++[u]) S3 else .aA) else cW (λ_=>True) b c f r fC bU S2:=by
 conv=>lhs;unfold cW
 rw[if_pos trivial]
theorem qU {b:Tr->En->Cs->R En}{c:En->Cs->R Bool}{f:Em}{S:Cs}(τ0:En)(P:En->Prop)(g:Tr->Tr)(keep:Tr->Bool)
  : ∀(l:List Tr) (τ:En) (bU:List Tr),P τ -> (∀t∈l,∀ τ,P τ -> ∃fC,P fC/\b t τ S = .ok fC S/\c fC S = .ok (keep t) S/\(keep t=true->f fC S = .ok (g t) S))->bU.length+l.length<=1000000 ->
   cW (λ_=>True) b c f l τ bU S = .ok (bU++(l.filter keep).map g) S
 |[],τ,bU,hτ,h,hl=>by rw[yu];simp
 |t::r,τ,bU,hτ,h,hl=>by
  obtain⟨fC,p1,e1,e2,e3⟩:=h t (by simp) τ hτ
  rw[uB,e1,ig,R.d7,e2,ig,R.d7];have Jg:bU.length+1+r.length<=1000000:=by simp at hl;omega
  cases hk:keep t with
  |true =>
   rw[if_pos rfl,e3 hk,ig,R.d7,if_pos (zan (by omega:bU.length<1000000) (by decide)),qU τ0 P g keep r fC _ p1 (λu hu=>h u (by simp[hu])) (by simp;omega)]
   simp[zbF,hk]
  |false =>
   rw[if_neg zah,qU τ0 P g keep r fC _ p1 (λu hu=>h u (by simp[hu])) (by omega)]
   simp[zbF,hk]
theorem Au {α:Type}(l:List α)(a b:α):(l++[a]).set l.length b=l++[b]:=by
 induction l with
 |nil=>rfl
 |cons x r ih=>simp only[zbX,zar,zbJ,ih]
theorem i_ {α:Type}(l:List α)(a:α):(l++[a])[l.length]? = some a:=by simp
theorem JJ (S:Cs)(l:List Tr):cu (S++[.aM l]) S.length=some l:=by unfold cu;rw[i_]
theorem yv (S:Cs)(l:List (dh×Tr)):oG (S++[.gS l]) S.length=some l:=by unfold oG;rw[i_]
open Classical in
theorem pV {q:Fn}{ts:List Tr}{S S1:Cs}{t u:Tr}(h:q ts S = .ok t S1)(h1:S1.take S.length=S)(h2:B7 S.length S1 t=some u):rQ q ts S = .ok u S:=by
 unfold rQ;rw[h];show (if S1.take S.length=S then _ else _)=_
 rw[if_pos h1,h2]
theorem pW (m:Nat):∀l:List Tr,Tr.jX m l=l.all (Tr.az m)
 |[]=>by unfold Tr.jX;rfl
 |t::l=>by unfold Tr.jX;rw[pW m l];rfl
theorem pX:∀l:List Tr,Tr.pP l=l.all Tr.qO
 |[]=>by unfold Tr.pP;rfl
 |t::l=>by unfold Tr.pP;rw[pX l];rfl
theorem Av {m:Nat}{i:Int}:Tr.az m (.int i)=true:=by unfold Tr.az;rfl
theorem G9 {m:Nat}{i:Str}:Tr.az m (.str i)=true:=by unfold Tr.az;rfl
theorem abw {m:Nat}{i:Bool}:Tr.az m (.bl i)=true:=by unfold Tr.az;rfl
theorem Tw {m:Nat}:Tr.az m .bz=true:=by unfold Tr.az;rfl
theorem Ni {m:Nat}{l:List Tr}:Tr.az m (.tp l)=l.all (Tr.az m):=by unfold Tr.az;exact pW m l
theorem abx {m:Nat}{l:List Tr}:Tr.az m (.ls l)=l.all (Tr.az m):=by unfold Tr.az;exact pW m l
noncomputable def G_ (K:W.Frag):Sp:=λvs H Q _=>∃(a:Addr) (ns:List Int),vs=[.ref a]/\jC K H a (ns.map V.int)/\ns.length<=63/\∀H',Q (.bl true) H'
theorem aby {P:Program}{w:World}{K:W.Frag}{mg:Str->Option Value}{base:Heap}{CX:DO}{j:Nat}{f:Addr}{fd:FuncData}{ps:List Str}{cl:Str->Addr}{q:Fn}(F:aQ P w K mg base CX j f fd ps (dU K cl 1 q))
  (h:∀ns:List Int,ns.length<=63->∃S,q [.kl (ns.map Tr.int)] [] = .ok (.bl true) S):aQ P w K mg base CX j f fd ps (G_ K):=F.imp λvs H Q E b_=>by
 obtain⟨a,ns,ev,hS,hl,k⟩:=b_;subst ev;obtain⟨S,e⟩:=h ns hl;refine⟨⟨K,0,λ_=>0,H,λ_=>none⟩,[],[.kl (ns.map Tr.int)],⟨rfl,rfl,?_,λi c e=>(by simp at e),λi j ⟨c,e,_⟩=>(by simp at e),λb o e=>(by cases e),λi ⟨c,e,_⟩=>(by simp at e),λb xs e=>(by cases e)⟩,.cons ?_ .nil,rfl,?_⟩
 ·funext b
  unfold Fz;rw[if_neg];rintro (⟨i,⟨c,e,_⟩,_⟩|z)
  ·simp at e
  ·exact z rfl
 ·unfold RT
  exact⟨a,_,rfl,hS,bJ.ints ns⟩
 ·rw[e]
  intro w' H' v _ _ rv;rw[ku rv];exact k H'
noncomputable def amQ (t:Tr)(x:R Tr)(S:Cs):R Tr:=match t with|.bl true=>x|.bl false=>.ok (.bl false) S|_=>.aA
noncomputable def orV (t:Tr)(x:R Tr)(S:Cs):R Tr:=match t with|.bl true=>.ok (.bl true) S|.bl false=>x|_=>.aA
theorem JK {p:Prop}[Decidable p]{a b:Bool}{S:Cs}:(if p then R.ok (Tr.bl a) S else R.ok (Tr.bl b) S)=R.ok (Tr.bl (if p then a else b)) S:=by split<;>rfl
theorem Hf {α:Type}{l:List α}{n:Int}{m:Int}(hm:m=l.length)(h0:0<m):∃t,t∈l/\jK l (n % m)=some t:=by
 have h1:=zcy n (by omega:m≠0)
 have h2:=zcb n h0;obtain⟨j,hj⟩:=zbh h1;have Hg:j<l.length:=by omega
 exact⟨l[j],zdT Hg,by rw[hj];exact ic (zag Hg)⟩
theorem uC {lo:Int}{n i:Nat}{t:Tr}(h:(sI lo n)[i]? = some t):i<n/\t = .int (lo+i):=by
 unfold sI at h;rw[zas] at h;have nL:i<n:=by
  cases ec:(List.range n)[i]? with
  |none=>rw[ec] at h;cases h
  |some c=>simpa using (zae.mp ec).1
 rw[List.getElem?_range nL] at h;cases h;exact⟨nL,rfl⟩
theorem nq {lo:Int}{n:Nat}:(sI lo n).length=n:=by simp[sI]
end L2
namespace L2
end L2
namespace L2
open PySem PySem.Spec PyProof.Rows
theorem Aw:oq "int" "bool"=some false:=by decide +kernel
theorem B9:oq "int" "int"=some true:=by decide +kernel
theorem B_:oq "int" "str"=some false:=by decide +kernel
theorem xE:oq "int" "tuple"=some false:=by decide +kernel
theorem Ax:oq "int" "list"=some false:=by decide +kernel
theorem Ca:oq "str" "str"=some true:=by decide +kernel
theorem xF:oq "str" "tuple"=some false:=by decide +kernel
theorem Ay:oq "str" "list"=some false:=by decide +kernel
theorem sJ:oq "tuple" "tuple"=some true:=by decide +kernel
theorem uD:oq "tuple" "list"=some false:=by decide +kernel
theorem uE:oq "list" "tuple"=some false:=by decide +kernel
theorem xG:oq "list" "list"=some true:=by decide +kernel
end L2
namespace L2
open PySem PySem.Spec PyProof.Rows
theorem uF:∀{l m:List Char},l.map Char.toNat=m.map Char.toNat->l=m
 |[],[],_=>rfl
 |[],_::_,h=>by simp at h
 |_::_,[],h=>by simp at h
 |a::l,b::m,h=>by
  simp only[zat,List.cons.injEq] at h;rw[uF h.2,Char.ext (UInt32.toNat_inj.mp h.1)]
theorem Tz {a b:String}:(Str.ofString a=Str.ofString b)=(a=b):=by
 apply propext
 constructor
 ·intro h
  rw[Str.ofString_eq_byList] at h;unfold Str.ofStringByList at h;simp only[Str.mk.injEq] at h;have h2:a.toList.map Char.toNat=b.toList.map Char.toNat:=by simpa using h
  exact String.toList_inj.mp (uF h2)
 ·rintro rfl;rfl
theorem uG {iC:Cs->Prop}{b:Tr->En->Cs->R En}{c:En->Cs->R Bool}{f:Em}{τ:En}{bU:List Tr}{S:Cs}(h:iC S):cW iC b c f [] τ bU S = .ok bU S:=by unfold cW;rw[if_pos h]
theorem rR {iC:Cs->Prop}{b:Tr->En->Cs->R En}{c:En->Cs->R Bool}{f:Em}{t:Tr}{r:List Tr}{τ:En}{bU:List Tr}{S:Cs}(h:iC S):cW iC b c f (t::r) τ bU S =
  (jB (b t τ S)).az λfC S1=>(jB (c fC S1)).az λx S2=>if x=true then (jB (f fC S2)).az λu S3=>(if bU.length<sizeLine then cW iC b c f r fC (bU++[u]) S3 else .aA) else cW iC b c f r fC bU S2:=by
 conv=>lhs;unfold cW
 rw[if_pos h]
theorem eX {α:Type}{iC:Cs->Prop}{b:Tr->En->Cs->R En}{c:En->Cs->R Bool}{f:Em}{S:Cs}(hS:iC S)(P:En->Prop)(k:α -> Tr)(g:α -> Tr)(keep:α -> Bool)
  : ∀(l:List α) (τ:En) (bU:List Tr),P τ -> (∀a∈l,∀ τ,P τ -> ∃fC,P fC/\b (k a) τ S = .ok fC S/\c fC S = .ok (keep a) S/\(keep a=true->f fC S = .ok (g a) S))->bU.length+l.length<=1000000 ->
   cW iC b c f (l.map k) τ bU S = .ok (bU++(l.filter keep).map g) S
 |[],τ,bU,hτ,h,hl=>by rw[zaJ,uG hS];simp
 |t::r,τ,bU,hτ,h,hl=>by
  obtain⟨fC,p1,e1,e2,e3⟩:=h t (by simp) τ hτ
  rw[zat,rR hS,e1,ig,R.d7,e2,ig,R.d7];have Jg:bU.length+1+r.length<=1000000:=by simp at hl;omega
  cases hk:keep t with
  |true =>
   rw[if_pos rfl,e3 hk,ig,R.d7,if_pos (zan (by omega:bU.length<1000000) (by decide)),eX hS P k g keep r fC _ p1 (λu hu=>h u (by simp[hu])) (by simp;omega)]
   simp[zbF,hk]
  |false =>
   rw[if_neg zah,eX hS P k g keep r fC _ p1 (λu hu=>h u (by simp[hu])) (by omega)]
   simp[zbF,hk]
theorem Ff {α β γ:Type}(f:α -> Bool)(g:α -> γ):∀{l:List α} {l':List β},l'.length=l.length->((l.zip l').filter λp=>f p.1).map (λp=>g p.1)=(l.filter f).map g
 |[],_,_=>by simp
 |a::l,[],h=>by simp at h
 |a::l,b::l',h=>by
  have h':l'.length=l.length:=by simpa using h
  rw[zcT,zbF,zbF];cases f a
  ·simp only[zbq,if_false];exact Ff f g h'
  ·simp only[if_true,zat];rw[Ff f g h']
theorem Hh {α β γ:Type}(g:β -> γ):∀{l:List α} {l':List β},l'.length=l.length->(l.zip l').map (λp=>g p.2)=l'.map g
 |[],[],_=>rfl
 |[],_::_,h=>by simp at h
 |a::l,[],h=>by simp at h
 |a::l,b::l',h=>by
  have h':l'.length=l.length:=by simpa using h
  rw[zcT,zat,zat,Hh g h']
theorem Nj {α β:Type}:∀{l:List α} {l':List β} {p:α × β},p∈l.zip l'->∃j:Nat,l[j]? = some p.1/\l'[j]? = some p.2
 |[],_,p,h=>by simp at h
 |_::_,[],p,h=>by simp at h
 |a::l,b::l',p,h=>by
  rw[zcT] at h;rcases zap.mp h with rfl|h
  ·exact⟨0,rfl,rfl⟩
  ·obtain⟨j,h1,h2⟩:=Nj h
   exact⟨j+1,by simpa using h1,by simpa using h2⟩
theorem HR.ext (h:HR G w S H)(k:∀b o,H b=some o->H' b=some o):HR G {w with F:=Fz w.ρ w.hid S H' } S H'/\w.le {w with F:=Fz w.ρ w.hid S H' }:=by
 have hF:∀b o,w.F b=some o->Fz w.ρ w.hid S H' b=some o:=λb o e=>by
  rw[h.F] at e;unfold Fz at e ⊢
  split at e
  ·cases e
  ·rename_i hn
   rw[if_neg hn];exact k b o e
 have le:w.le {w with F:=Fz w.ρ w.hid S H' }:=⟨rfl,zaf _,λ_ _=>rfl,hF,rfl⟩
 exact⟨⟨h.K,h.n,rfl,λi c e=>(h.cell i c e).mono le λu eu=>k _ _ eu,h.inj,λb o e=>k b o (h.hid b o e),h.ko,h.hl⟩,le⟩
section
variable {P:Program}{qV:World}{K:W.Frag}{mg:Str->Option Value}{base:Heap}{N:List Str}{bX:Str}{scope:Scope}{f:Addr}{fF:Value}{A:Around}{outer:List Env}{s₀:Shared}{H₀:Hp}{E:XK}{cl:Str->Addr}{k:Nat}
noncomputable def Wg (C:Addr)(n:Nat)(g:List V->List (Str×V)):Sp:=λvs H Q _=>∃(a:Addr) (xs:List V),vs = .ref a::xs/\xs.length=n/\H a=some (EO a C none) /\
 ∀(d:Addr) (H':Hp),H d=none->H' a=some (EO a C (some d))->H' d=some (ED d (g xs))->(∀b o,H b=some o->b≠a->H' b=some o)->Q .bz H'
theorem HR.abz (h:HR G w S H)(hx:H x=none)(hd:H d=none)(dx:d≠x)(h2x:H2 x=some (EO x (G.cl c) (some d)))(h2d:H2 d=some (ED d xq))
  (kp:∀b o,H b=some o->H2 b=some o) (hT:H2 T=none) (Tx:T≠x) (r:RK w fs xq):∃w',w.le w'/\w'.ρ S.length=x/\HR G w' (S++[.xm c fs]) (bu (bu H2 x (t9 x (G.cl c) (some d) T)) T (TB T)):=by
 have h3:∀b o,H b=some o->(λb=>if b=x then none else H2 b) b=some o:=λb o e=>by
  show (if b=x then none else H2 b)=some o
  rw[if_neg λz=>by subst z;rw[hx] at e;cases e]
  exact kp b o e
 obtain⟨dg,eB⟩:=h.ext (H':=λb=>if b=x then none else H2 b) h3
 have hT3:(λb=>if b=x then none else H2 b) T=none:=by
  show (if T=x then none else H2 T)=none
  rw[if_neg Tx,hT]
 obtain⟨mz,iK⟩:=dg.lay hT3 (TB T)
 have dT:d≠T:=λz=>by rw[z,hT] at h2d;cases h2d
 have hp:bu (λb=>if b=x then none else H2 b) T (TB T) x=none:=by
  rw[av Tx.symm];show (if x=x then none else H2 x)=none
  rw[if_pos rfl]
 have hH:bu (bu (λb=>if b=x then none else H2 b) T (TB T)) x (t9 x (G.cl c) (some d) T)=bu (bu H2 x (t9 x (G.cl c) (some d) T)) T (TB T):=by
  funext b
  by_cases b1:b=x
  ·subst b1
   rw[au,av Tx.symm,au]
  ·rw[av b1]
   by_cases b2:b=T
   ·subst b2
    rw[au,au]
   ·rw[av b2,av b2,av b1]
    show (if b=x then none else H2 b)=_
    rw[if_neg b1]
 have MO:=Wd.uc { {w with F:=Fz w.ρ w.hid S λb=>if b=x then none else H2 b} with F:=bu (Fz w.ρ w.hid S λb=>if b=x then none else H2 b) T (TB T)} x
 obtain⟨GZ,_⟩:=mz.EW hp (o:=t9 x (G.cl c) (some d) T) (c:=.xm c fs) rfl (by
  refine⟨T,d,xq,au,au,?_,Tx,dx,r.mono (eB.trans (iK.trans MO))⟩
  show bu (Fz w.ρ w.hid S λb=>if b=x then none else H2 b) T (TB T) d=_
  rw[av dT];unfold Fz;rw[if_neg (h.free hd)];show (if d=x then none else H2 d)=_
  rw[if_neg dx,h2d])
 rw[hH] at GZ;refine⟨_,eB.trans (iK.trans MO),?_,GZ⟩
 show (if S.length=w.n then x else w.ρ S.length)=x
 rw[if_pos h.n.symm]
noncomputable def Az (c:Str)(n:Nat)(gT:List Tr->List (Str×Tr))(Hi:List Tr)(fr:En->Cs->R (List Tr)):Sm:=λτ S=>(fr τ S).bQ λts S1=>if ts.length+Hi.length=n/\n<=1000 then .ex S1.length (S1++[.xm c (gT (ts++Hi))]) else .aA
theorem Nk 
  (M:sQ K (cl c) fi bm) (F:aQ P qV K mg base eF j fi fd ps (Wg (cl c) n g)) (hj:j+1<=k) (hm:mg x=some (.ref (cl c))) (hb:fq K fd ps ds) (hd:bA nK ds) (hdt:∀w,bJ w Hi nK) (hg:∀w ts vs,bJ w ts vs->ts.length=n->RK w (gT ts) (g vs))
  (ha:xw ⟨K,cl,E⟩ k (jE (xj P qV) P qV K mg base N bX scope f fF A outer s₀ H₀ E) (e::es) fr)
  (hgl:Gl (jE (xj P qV) P qV K mg base N bX scope f fF A outer s₀ H₀ E) x:=by rfl) (tP:(x == ("__debug__" : Str))=false:=by decide) (hs:dS e=false:=by rfl) (Jk:dG es=true:=by rfl) (D0:0<k:=by first|decide|omega):
  xx ⟨K,cl,E⟩ k (jE (xj P qV) P qV K mg base N bX scope f fF A outer s₀ H₀ E) (.Raise (some (.Call (.Name x p) (e::es) [] fZ)) none pos) (Az c n gT Hi fr):=.mk<|λox =>
 (Mx (aax (X:=jE (xj P qV) P qV K mg base N bX scope f fF A outer s₀ H₀ E) (E:=E0) M F ((ox.room D0).mono hj) hgl hm hb hd (λ_ _ _ _ _ _ _ h=>h.elim) (ha ox) tP (dH hs) (f7 Jk))).wk λD σ H h=>by
  obtain⟨w,S,τ,hr,sl,q⟩:=h;refine⟨w,S,τ,hr,sl,(bV.az q).mono λvs H1 b_=>?_⟩
  obtain⟨w1,S1,ts,cU,bH,r1,_,q1⟩:=b_;split at q1
  ·rename_i hn
   have hl:vs.length<=1000:=by rw[r1.len];omega
   refine⟨hl,λx' QU=>⟨x',vs++nK,rfl,?_,au,λd H' VD e1 e2 kp=>⟨rfl,x',cl c,fi,bm,some d,rfl,e1,M,λT hT Tx=>?_⟩⟩⟩
   ·rw[zak,r1.len,(hdt w1).len];exact hn.1
   ·have dx:d≠x':=λz=>by rw[z,au] at VD;cases VD
    have hd2:H1 d=none:=by rw[av dx] at VD;exact VD
    obtain⟨w',le',ρx,xC⟩:=bH.abz (c:=c) (fs:=gT (ts++Hi)) (xq:=g (vs++nK)) QU hd2 dx e1 e2 (λb o eb=>kp b o (by rw[av λz=>by rw[z,QU] at eb;cases eb];exact eb) λz=>by rw[z,QU] at eb;cases eb) hT Tx (hg w1 _ _ (r1.rJ (hdt w1)) (by rw[zak];exact hn.1))
    obtain⟨c',K2,ec,kk⟩:=q1;have ec2:c'=c:=by
     simp only[i_] at ec;cases ec;rfl
    subst ec2
    have:=kk w' _ le' xC
    rw[ρx] at this;exact this
  ·exact q1.elim
noncomputable def fnX (N:List Str)(sb:Sm):Fn:=λts S=>match sb (gK N ts) S with|.nx _ S'=>.ok .bz S' | .rt t S'=>.ok t S' | .ex n S'=>.ex n S' | _=>.aA
theorem abA {st:Stmt}(F:K5 K x bX st f fd)(Sc:aq N ps (ak st))
  (hb:∀fF A outer s H E,JC ⟨K,cl,E⟩ k (jE (xj P qV) P qV K mg base N bX (ak st) f fF A outer s H E) (cV st) sb):aQ P qV K mg base (xj P qV) (k+1) f fd ps (dU K cl ps.length (fnX N sb)):=by
 refine F.okX Sc (λvs H Q E cX=>by obtain⟨w,S,ts,hr,r,hn,_⟩:=cX;rw[r.len,hn]) λfF A outer s H vs Q E hr dP=>?_
 obtain⟨w,S,ts,QX,r,hn,q⟩:=dP;refine⟨_,hb fF A outer s H E ⟨rfl,λ_=>rfl,λ_=>hr,zcS (Nat.add_le_add_right (zbr _ _) 200) hr.un⟩,w,S,gK N ts,QX,Sl.c9 N r,?_⟩
 unfold fnX at q;cases e:sb (gK N ts) S with
 |nx qz S'=>rw[e] at q;exact λw' H' fm le xC sl'=>q w' H' _ le xC qL
 |rt t S'=>rw[e] at q;exact λw' H' v le xC rv=>q w' H' v le xC rv
 |bk qz S'=>rw[e] at q;exact q.elim
 |ct qz S'=>rw[e] at q;exact q.elim
 |ex qz S'=>rw[e] at q;exact q
 |aA=>rw[e] at q;exact q.elim
end
theorem AA (hC:s.heap.get? C=some (excClassObj nm q C N bs bm xg sn sub ab tY dd k0 k1 k2 k3 k5 pL))(hB:s.heap.get? B=some (excClassObj VW q' B N' VX K6 rH VY BH VZ BI DP j0 j1 j2 j3 j5 mY))
  (he:s.heap.get? a=some oe) (Zw:oe.cls = .ref C) (hb:K6.contains (.type "BaseException")=true) (h2:(Value.ref C::bm).contains (.ref B)=true) (hq:Q true s):wpAny M A (excMatches (.ref a) (.ref B)) Q E s:=by
 have h1:(Value.ref B::K6).contains (.type "BaseException")=true:=by rw[zbH,hb,zcQ]
 have f:=tc_notTuple;obtain⟨hp,g,d,tk,os⟩:=s;unfold excMatches;repeat (first | (with_reducible refine zbN he ?_;rw[Zw])|with_reducible refine zbN hB ?_ | (with_reducible refine zcJ hB ?_;rw[h1]) | (with_reducible refine zcJ hC ?_;rw[h2])|wp_step)
 exact hq
noncomputable def abC (K:W.Frag)(B:Addr)(kk:Addr->Hp->Prop):XK:=λcls oa H2=>∃(a C f:Addr) (bm:List Value) (od:Option Addr) (T:Addr),oa=some a/\cls = .ref C/\sQ K C f bm/\(Value.ref C::bm).contains (.ref B)=true /\
 H2 a=some (t9 a C od T)/\H2 T=some (TB T)/\T≠a/\∀T',H2 T'=none->T'≠a->kk a (bu (bu H2 a (t9 a C od T')) T' (TB T'))
noncomputable def abD (K:W.Frag)(C:Addr)(m:Str)(B:Addr)(sp:Sp)(ta:TE)(t:TA)(ts:TS):TS:=λD σ H=>GG C m sp [] (abC K B λ_ H'=>ts D σ H') ta t σ H λ_ H3=>D.nx σ H3
section
variable {X:Cx}{k:Nat}{g B C:Addr}{fd:FuncData}{ps:List Str}{sp:Sp}{e o:Expr}{es:List Expr}{ta:TE}{t:TA}{n m cB:Str}{l:Nat}{p cp ap np ep hp pos:Pos}{lX:List Stmt}{sL:Stmt}{ts:TS}
 {VW q':Str} {N':Addr} {VX K6:List Value} {rH:Bool} {VY:List Str} {BH:List Value} {VZ:Bool} {BI:Option Bool} {DP:Option Addr} {j0 j1 j2 j3 j5:Option Value} {mY:String}
theorem JL {D:Bf}(Wh:X.fL=true)(AB:X.di=X.env::X.outer)(Ju:X.env.frame=some X.env.locals)(hgB:Gl X cB)(hmB:X.mg cB=some (.ref B))
  (hB:X.K.lookup B=some (excClassObj VW q' B N' VX K6 rH VY BH VZ BI DP j0 j1 j2 j3 j5 mY)) (hbB:K6.contains (.type "BaseException")=true) (TH:(cB == ("__debug__" : Str))=false)
  (I1:aJ X ah σ H1 s1) (hq:xj X.prog X.w X.di H1 s1 (abC X.K B kk) ev s')
  (hs:∀a C od T' s4 H4,ev = .ref a->H4 a=some (t9 a C od T')->H4 T'=some (TB T')->aJ (X.mX a) ah σ H4 s4->kk a H4->codeAny (model X.prog X.w) (X.A.mark (some (.ref a))) (.handlers (.ref a) [.ExceptHandler none name (sL::lX) hp] X.env) (λr mQ=>match r with
     |.ok f=>(match name with
      |none=>SP X ah D f mQ
      |some n=>wpAny (model X.prog X.w) X.A (do bindName X.env n .none;unbindBehindTheSuite X.env n hp) (λ_ wX=>SP X ah D f wX) X.xe mQ)
     |.error x=>cameBackBy (model X.prog X.w) X.A X.env X.xe x mQ) s4):
  wpAny (model X.prog X.w) X.A (noteFrame ev X.env) (λ_ mQ=>wpAny (model X.prog X.w) X.A (setFlight ev none) (λ_ wX=>wpAny (model X.prog X.w) X.A (handleBy ev X.env [.ExceptHandler (some (.Name cB np)) name (sL::lX) hp]) (SP X ah D) X.xe wX) X.xe mQ) X.xe s':=by
 obtain⟨a,_,_,_,H2,rfl,K4,ahW,un,cA,_,_,_,a9,C,f,bm,od,T,ea,ec,Mk,Ba,QW,hT2,Ta,kq⟩:=hq;cases ea;have I2:aJ X ah σ H2 s':=I1.Gw (ch:=[]) K4 un cA ahW (λb z=>absurd z (by simp))
 obtain⟨t0,ga⟩:=(show ∃t,s'.heap.get? a=some (lV C od t (.ref T)) from (I2.cA a _ QW).1)
 have gT:xh s'.heap T:=(I2.cA T _ hT2).1
 have mj:s'.heap.FunFrames X.base (X.env::X.outer):=by rw[<-AB];exact I2.Bl.mj
 have frames:X.A.frames=some (X.env::X.outer):=by rw[<-AB];exact I2.ok.frames
 refine Jv (base:=X.base) frames mj Ju ga gT Ta λh1 h' T' k1 tb1 z1 Lf=>?_
 have Ta':T'≠a:=zca (zan (zal ga) (by rw[<-z1];exact Lf.new))
 have nT':H2 T'=none:=I2.cA.fresh (by rw[<-z1];exact Lf.new)
 have I3:aJ X ah σ (bu (bu H2 a (t9 a C od T')) T' (TB T')) {s' with heap:=h' }:=I2.Mz QW hT2 Ta Ta' k1 tb1 z1 (by rw[AB];exact Lf)
 have I3m:=I3.mX a;refine wpAny_handleBy_cons (codeAny_handlers_test (nI I3m hgB hmB ?_ TH)) (by intro q;cases q)
 obtain⟨nm,qn,N0,bs,sn,sub,ab,tY,dd,k0,k1',k2,k3,k5,lk⟩:=Mk.kT;refine AA (I3.kO _ _ lk) (I3.kO _ _ hB) Lf.kT rfl hbB Ba ?_
 exact hs a C od T' _ _ rfl (by rw[av Ta'.symm,au]) au I3m (kq T' nT' Ta')
theorem Fg (I:aJ X ah σ H s)(ha:H a=some (t9 a C od T))(hT:H T=some (TB T))
  (h:∀s',aJ X ah σ H s'->Q () s'):wpAny M A (setFlight (.ref a) none) Q E s:=by
 obtain⟨t0,e1⟩:=(show ∃t,s.heap.get? a=some (lV C od t (.ref T)) from (I.cA a _ ha).1)
 obtain⟨oT,ts,eT,dT,h3⟩:=(show xh s.heap T from (I.cA T _ hT).1)
 unfold setFlight;refine zaa (zax e1 rfl (x:=.ref T) rfl ?_)
 rw[if_pos (show (Value.ref T != Value.none)=true from by simp)]
 have sz:=(zdC.mp h3).1
 refine zbV eT dT sz ?_
 have fT:(s.heap.update T (Obj.mapFields (·.setIfInBounds 3 ((none:Option Addr).elim Value.none λf=>rawInt f)))).get? T=some (Obj.mapFields (·.setIfInBounds 3 ((none:Option Addr).elim Value.none λf=>rawInt f)) oT):=zaW _ eT (zcD (zbs dT _))
 have tb4:xh (s.heap.update T (Obj.mapFields (·.setIfInBounds 3 ((none:Option Addr).elim Value.none λf=>rawInt f)))) T:=⟨_,_,fT,zbs dT _,by simp[sz]⟩
 have I4:=I.jH (x:=T) (e:=T) (o:=TB T) (t':=s.toks) (h':=s.heap.update T (Obj.mapFields (·.setIfInBounds 3 ((none:Option Addr).elim Value.none λf=>rawInt f))))
  (by rw[hT];exact True.intro) (.inl rfl) (λb u nb hb=>(zaB _ _ (zbg nb)).trans hb) ⟨_,fT⟩ (GU tb4)
 rw[BC hT] at I4;exact h _ I4
theorem Nl (Wh:X.fL=true)(AB:X.di=X.env::X.outer)(Ju:X.env.frame=some X.env.locals)(hgB:Gl X cB)(hmB:X.mg cB=some (.ref B))
  (hB:X.K.lookup B=some (excClassObj VW q' B N' VX K6 rH VY BH VZ BI DP j0 j1 j2 j3 j5 mY)) (hbB:K6.contains (.type "BaseException")=true)
  (he:PE X.DN o ta) (c:wQ X.K C) (hm:dO X.K C m g) (F:aQ X.prog X.w X.K X.mg X.base (xj X.prog X.w) k g fd ps sp) (hr:gV k X.A) (hb:fq X.K fd ps []) (ha:PA X.DN (e::es) t)
  (hs:∀a,xQ (X.mX a).DN (sL::lX) ts)
  (TH:(cB == ("__debug__" : Str))=false:=by decide) (Sg:swapsWith (.Call (.Attribute o m ap) (e::es) [] cp) none ep.line X.env=pure false:=by rfl)
  (qy:starEach (e::es) X.env=(false,eval e X.env)::starEach es X.env:=by rfl) (hpl:(backTo cp (starEach es X.env)).any (·.1)=false:=by rfl)
  (ht:eval (.Call (.Attribute o m ap) (e::es) [] cp) X.env=(do
   let ov <-eval o X.env
   standAt ap.atName
   let (f,first) <-holding [ov] (getMethod ov m pl)
   callWith cp f first (backTo cp (starEach (e::es) X.env)) (backToKw cp (keywordEach [] X.env))):=by rfl):
  PS X (.Try [.Expr (.Call (.Attribute o m ap) (e::es) [] cp) ep] [.ExceptHandler (some (.Name cB np)) none (sL::lX) hp] [] [] pos) (abD X.K C m B sp ta t ts):=by
 intro ah s σ H D I h;have hhd:X.fL=true->X.A.handled=none:=I.ok.hd
 refine wpAny_Try_except (zdL (wpAny_Expr_any ?_ I.quiet Sg))
 refine W.methodCall_KW (pl:=pl) (zaQ (he ah s σ H _ (I.su _) h) (λu s1 dP=>?_) λ_ _ z=>z.elim) ht
 obtain⟨x,H1,I1',rx,a,dx,fs,ex,ea,lk,q⟩:=dP;have I1:aJ X ah σ H1 s1:=I1'.gm
 subst ex;obtain rfl:u=Value.ref a:=rx
 refine oM I1 ea c hm lk ?_
 refine W.callWith_K (first:=[.ref a]) (h₀:= X.base) I.ok.tF.Zt hm.kp (zaQ (ha cp ah s1 σ H1 _ I1' q) (λus s2 ⟨vs,H2,I2',r,q2⟩=>⟨I2'.gm.kO,?_⟩) λ_ _ z=>z.elim) qy hpl
 have I2:aJ X ah σ H2 s2:=I2'.gm
 have r2:bA (V.ref a::vs) (Value.ref a::us):=.cons rfl r
 have q2:sp (V.ref a::(vs++[])) H2 _ _:=q2
 rw[zaw] at q2;have c_:(Value.ref a::us).length=ps.length:=by rw[<-r2.length];exact F.len _ _ _ _ q2
 have az:=hb s2 (Value.ref a::us) I2.kO (by rw[zaw];exact c_)
 rw[zaw] at az;refine zdh (zcN (F.kW X.A X.di s2 H2 ⟨Value.ref a::us,[]⟩ (Value.ref a::us) (V.ref a::vs) _ _ hr I2.Bl az r2 q2) λrr s' hq=>?_)
 cases rr with
 |ok fl =>
  cases fl with
  |ret u =>
   obtain⟨v,H3,I3,rv,q3⟩:=I2.after hq;exact zcK (zcK ⟨σ,H3,I3,q3⟩)
  |next=>exact False.elim hq
  |brk=>exact False.elim hq
  |cont=>exact False.elim hq
 |error ev =>
  refine JL Wh AB Ju hgB hmB hB hbB TH I2 hq λa C od T' s4 H4 _ ha4 hT4 I4 kq=>?_
  refine codeAny_handlers_suite (Fg I4 ha4 hT4 λs5 I5=>?_)
  refine zaQ (hs a ah s5 σ H4 _ (I5.su _) kq) (λfl s7 h7=>?_) λ_ _ z=>z.elim
  cases fl with
  |next=>obtain⟨fm,H',I7,q7⟩:=h7;exact⟨_,_,I7.gm.pM hhd,q7⟩
  |brk=>obtain⟨fm,H',I7,q7⟩:=h7;exact⟨_,_,I7.gm.pM hhd,q7⟩
  |cont=>obtain⟨fm,H',I7,q7⟩:=h7;exact⟨_,_,I7.gm.pM hhd,q7⟩
  |ret u=>obtain⟨v,fm,H',I7,r7,q7⟩:=h7;exact⟨v,_,_,I7.gm.pM hhd,r7,q7⟩
end
noncomputable def Cb (S:Cs)(n:Nat):Option (Str×List (Str×Tr)):=match S[n]? with|some (.xm c fs)=>some (c,fs)|_=>none
theorem oV (h:Cb S n=some (c,fs)):S[n]? = some (.xm c fs):=by
 unfold Cb at h;split at h
 ·cases h;assumption
 ·cases h
section
variable {G:Gx}{k:Nat}{X:Cx}{o a:Expr}{fo fa:Em}{pos p p2:Pos}
structure Sys (K:W.Frag):Prop where
 get:W.specialIn K (.builtin "object.__class__") "__get__"=some (some (.builtin "getset_descriptor.__get__"))
 apK:W.takesIn K (.builtin "object.__class__")=some true
end
noncomputable def AD (l:Option Nat)(x:Option Tr)(τ:En):En:=match l with|some l=>τ.set l x|none=>τ
noncomputable def yw (l:Option Nat)(r:RS):RS:=match r with
 |.nx τ S=>.nx (AD l none τ) S
 |.bk τ S=>.bk (AD l none τ) S
 |.ct τ S=>.ct (AD l none τ) S
 |.rt t S=>.rt t S
 |_=>.aA
noncomputable def lE (cs:List Str)(l:Option Nat)(sh:Sm)(τ:En)(r:R Tr):RS:=match r with
 |.ok _ S=>.nx τ S
 |.ex e S=>(match Cb S e with|some (c,_)=>if c∈cs then yw l (sh (AD l (some (.hd e)) τ) S) else .aA|none=>.aA)
 |.aA=>.aA
noncomputable def Hj (c m:Str)(n:Nat)(q:Fn)(fo:Em)(fr:En->Cs->R (List Tr))(cs:List Str)(l:Option Nat)(sh:Sm):Sm:=λτ S=>(fo τ S).bQ λt S1=>match t with
 |.hd i=>(match iV S1 i with
  |some (c',fs)=>if c'=c/\(aH m fs).isNone=true then (fr τ S1).bQ λts S2=>(if (t::ts).length=n then lE cs l sh τ (q (t::ts) S2) else .aA) else .aA
  |none=>.aA)
 |_=>.aA
noncomputable def sV (G:Gx)(B:Addr)(cs:List Str):Prop:=∀c∈cs,∃f bm,sQ G.K (G.cl c) f bm/\(Value.ref (G.cl c)::bm).contains (.ref B)=true
theorem jo {α:Type}:∀{l:List α} {i:Nat} {c:α},l[i]? = some c->l.set i c=l
 |[],i,c,h=>by simp at h
 |x::r,0,c,h=>by simp at h;simp[h]
 |x::r,i+1,c,h=>by simp only[zaF] at h;rw[zbJ,jo h]
theorem HR.Mz (h:HR G w S H)(he:S[e]? = some (.xm c fs)):∃d T,H (w.ρ e)=some (t9 (w.ρ e) (G.cl c) (some d) T)/\H T=some (TB T)/\T≠w.ρ e /\
  ∀T',H T'=none->T'≠w.ρ e->∃w',w.le w'/\w'.ρ=w.ρ /\ HR G w' S (bu (bu H (w.ρ e) (t9 (w.ρ e) (G.cl c) (some d) T')) T' (TB T')):=by
 obtain⟨T,d,xq,h1,h2,h3,h4,h5,h6⟩:=h.cell _ _ he;refine⟨d,T,h1,h.sub _ _ h2,h4,λT' hT' ne=>?_⟩
 obtain⟨dg,eB⟩:=h.lay hT' (TB T')
 have hdT:d≠T':=λz=>by rw[z,h.MH hT'] at h3;cases h3
 have mz:=dg.zD he rfl (c':=.xm c fs) rfl (o:=t9 (w.ρ e) (G.cl c) (some d) T') ⟨T',d,xq,au,au,by show bu w.F T' (TB T') d=_;rw[av hdT];exact h3,ne,h5,h6.mono eB⟩
 rw[jo he] at mz;refine⟨_,eB,rfl,?_⟩
 have:bu (bu H (w.ρ e) (t9 (w.ρ e) (G.cl c) (some d) T')) T' (TB T')=bu (bu H T' (TB T')) (w.ρ e) (t9 (w.ρ e) (G.cl c) (some d) T'):=by
  funext b
  by_cases b1:b=T'
  ·subst b1;rw[au,av ne,au]
  ·rw[av b1]
   by_cases b2:b=w.ρ e
   ·subst b2;rw[au,au]
   ·rw[av b2,av b2,av b1]
 rw[this];exact mz
section
variable {K:W.Frag}{cl:Str->Addr}{k j n:Nat}{X:Cx}{f B:Addr}{fd:FuncData}{ps:List Str}{q:Fn}{m cB nn c:Str}{p cp ap np ep hp pos:Pos}{e o:Expr}{es:List Expr}{fr:En->Cs->R (List Tr)}{fo:Em}{lX:List Stmt}{sL:Stmt}{sh:Sm}{l:Nat}{cs:List Str}
 {VW q':Str} {N':Addr} {VX K6:List Value} {rH:Bool} {VY:List Str} {BH:List Value} {VZ:Bool} {BI:Option Bool} {DP:Option Addr} {j0 j1 j2 j3 j5:Option Value} {mY:String}
theorem HR.swE (h:HR ⟨K,cl,E⟩ w S H):HR ⟨K,cl,E'⟩ w S H:=HR.unx (G:=⟨K,cl,E'⟩) (HR.nx (G:=⟨K,cl,E⟩) h)
theorem Nm {lo:Option Nat}(hC:sV ⟨K,cl,E⟩ B cs)(sl:Sl w2 τ σ)(q2:bV ⟨K,cl,E⟩ w2 (lE cs lo sh τ r) D)
  (hkk:∀a H',(∃w S n,w2.le w/\HR ⟨K,cl,E⟩ w S H'/\n<w.n/\a=w.ρ n/\bV ⟨K,cl,E⟩ w (yw lo (sh (AD lo (some (.hd n)) τ) S)) D)->kk a H'):aV RT ⟨K,cl,abC K B kk⟩ w2 r λ_ H3=>D.nx σ H3:=by
 cases r with
 |ok a S3=>exact λw' H' b le xC _=>q2 w' H' σ le xC.swE (sl.mono le)
 |aA=>exact q2
 |ex en S3 =>
  unfold lE at q2;simp only at q2
  split at q2
  ·rename_i c2 fs2 ei
   split at q2
   ·rename_i hc
    refine⟨c2,fs2,oV ei,λw' H' le xC=>?_⟩
    obtain⟨d,T,h1,h2,h3,h4⟩:=xC.Mz (oV ei)
    obtain⟨f',bm,M,Ba⟩:=hC c2 hc;refine⟨_,_,f',bm,some d,T,rfl,rfl,M,Ba,h1,h2,h3,λT' a1 a2=>?_⟩
    obtain⟨w3,iK,e3,mz⟩:=h4 T' a1 a2;have hn:en<w3.n:=by
     have:=(zae.mp (oV ei)).1
     rw[mz.n];exact this
    exact hkk _ _ ⟨w3,S3,en,le.trans iK,mz.swE,hn,by rw[e3],bV.wd (le.trans iK) q2⟩
   ·exact q2.elim
  ·exact q2.elim
theorem Nn {pl:Sem Bool}(hB:K.lookup B=some (excClassObj VW q' B N' VX K6 rH VY BH VZ BI DP j0 j1 j2 j3 j5 mY))(hbB:K6.contains (.type "BaseException")=true)(hC:sV ⟨K,cl,E0⟩ B cs)(hmB:X.mg cB=some (.ref B))
  (hc:wQ K (cl c)) (hM:dO K (cl c) m f) (F:aQ X.prog X.w X.K X.mg X.base (xj X.prog X.w) j f fd ps (dU K cl n q)) (hj:j<=k) (hb:fq X.K fd ps []) (ho:TV ⟨K,cl,E0⟩ k X.DN o fo) (ha:xw ⟨K,cl,E0⟩ k X.DN (e::es) fr)
  (hs:∀a,JC ⟨K,cl,E0⟩ 0 (X.mX a).DN (sL::lX) sh) (AB:X.di=X.env::X.outer:=by rfl) (Ju:X.env.frame=some X.env.locals:=by rfl)
  (hgB:Gl X cB:=by rfl) (TH:(cB == ("__debug__" : Str))=false:=by decide) (Sg:swapsWith (.Call (.Attribute o m ap) (e::es) [] cp) none ep.line X.env=pure false:=by rfl)
  (qy:dS e=false:=by rfl) (hpl:dG es=true:=by rfl)
  (ht:eval (.Call (.Attribute o m ap) (e::es) [] cp) X.env=(do
   let ov <-eval o X.env
   standAt ap.atName
   let (f,first) <-holding [ov] (getMethod ov m pl)
   callWith cp f first (backTo cp (starEach (e::es) X.env)) (backToKw cp (keywordEach [] X.env))):=by rfl) (D0:0<k:=by first|decide|omega):
  xx ⟨K,cl,E0⟩ k X (.Try [.Expr (.Call (.Attribute o m ap) (e::es) [] cp) ep] [.ExceptHandler (some (.Name cB np)) none (sL::lX) hp] [] [] pos) (Hj c m n q fo fr cs none sh):=.mk<|λox =>
 (Nl (pl:=pl) (C:=cl c) (ox.fL D0) AB Ju hgB hmB (by rw[ox.K];exact hB) hbB (ho ⟨ox.K,ox.fL,ox.room,ox.un⟩) (by rw[ox.K];exact hc) (by rw[ox.K];exact hM) F ((ox.room D0).mono hj) hb (ha ⟨ox.K,ox.fL,ox.room,ox.un⟩)  (λa=>hs a ⟨ox.K,λz=>absurd z (zbd 0),λz=>absurd z (zbd 0),ox.un⟩) TH Sg (dH qy) (f7 hpl) ht).wk λD σ H h=>by
  obtain⟨w,S,τ,hr,sl,qq⟩:=h;refine⟨w,S,τ,hr,sl,(bV.az qq).mono λv H1 f6=>?_⟩
  obtain⟨w1,S1,t,cU,bH,r1,_,q1⟩:=f6;split at q1
  ·split at q1
   ·rename_i c' fs ei
    split at q1
    ·rename_i hc
     obtain⟨rfl,hm⟩:=hc;obtain⟨dx,xq,h1,h2⟩:=bH.cell _ _ (fM ei)
     refine⟨_,dx,xq,r1.cK.2,h1,(iB (k:=m) h2).2 (zdK.mp hm),w1,S1,τ,bH,sl.mono cU,(bV.az q1).mono λvs H2 jk=>?_⟩
     obtain⟨w2,S2,ts,eB,dg,r2,_,q2⟩:=jk;split at q2
     ·rename_i hn
      rw[zaw];refine⟨w2,S2,_,dg.swE,.cons (RT.mono eB _ _ r1) r2,hn,?_⟩
      rw[ox.K];refine Nm hC ((sl.mono cU).mono eB) q2 λa H' BV=>?_
      obtain⟨w3,S3,en,iK,mz,hn3,ea,q3⟩:=BV;subst ea;refine⟨w3,S3,τ,mz,(sl.mono cU).mono (eB.trans iK),?_⟩
      have q3:bV ⟨K,cl,E0⟩ w3 (yw none (sh τ S3)) D:=q3
      generalize sh τ S3=z at q3 ⊢
      cases z with
      |nx ou S4=>exact q3
      |bk ou S4=>exact q3
      |ct ou S4=>exact q3
      |rt ou S4=>exact q3
      |ex ou S4=>exact q3.elim
      |aA=>exact q3
     ·exact q2.elim
    ·exact q1.elim
   ·exact q1.elim
  ·exact q1.elim
end
structure EC (K:W.Frag) (mg:Str->Option Value) (B:Addr) (x:Str) (C f:Addr) (st:Stmt) (fd:FuncData) (ps:List Str):Prop where
 M:sQ K C f (.ref B::sP)
 m:mg x=some (.ref C)
 b:fq K fd ps []
 lk:∃(oc:Value) (od:Option Addr) (dV kV oN pm:Value) (an:Option Addr) (fF ct:Value) (Ew:Array (Option Value)) (q:Str),
  fd=W.fnOf "__init__" q (eU st) (cV st) (ak st) dV kV oN pm an fF ct/\K.lookup f=some ⟨oc,od,.func fd,Ew⟩/\W.codeIn K fF q=true
structure abH (K:W.Frag) (mg:Str->Option Value) (B:Addr) (cs:List (Str×Addr×Addr)):Prop where
 m:mg "BookError"=some (.ref B)
 EB:VS K B
 QY:(W.clsIn K B).isSome=true
 tyB:W.typeIn K (.ref B)=some (.type "type")
 oB:∃nm q N bs hd sn sub ab tY dd j0 j1 j2 j3 j5 pL,K.lookup B=some (excClassObj nm q B N bs sP hd sn sub ab tY dd j0 j1 j2 j3 j5 pL)
 sy:Sys K
 all:∀p∈cs,mg p.1=some (.ref p.2.1)/\sQ K p.2.1 p.2.2 (.ref B::sP)
section
variable {P:Program}{w:World}{K:W.Frag}{mg:Str->Option Value}{base:Heap}{B:Addr}{cs:List (Str×Addr×Addr)}
theorem EC.ok {st:Stmt}(F:EC K mg B x C f st fd ps)(S:aq N ps (ak st))(len:∀vs H Q E,sp vs H Q E->vs.length=ps.length)
  (tQ:∀(q:Str) (fF:Value) (A:Around) (outer:List Env) (s:Shared) (H:Hp) (vs:List V) (Q:VK) (E:XK),gV k (A.deeper (PyProof.Rows.envOfC q (ak st) s.heap.objs.size f fF))->sp vs H Q E ->
   ∃t,xQ (jE eF P w K mg base N q (ak st) f fF A outer s H E).DN (cV st) t/\t {nx:=λ_ H'=>Q .bz H',rt:=Q} (L2.c9 N vs) H):aQ P w K mg base eF (k+1) f fd ps sp:=by
 obtain⟨oc,od,dV,kV,oN,pm,an,fF,ct,Ew,q,rfl,lk,Bg⟩:=F.lk;refine LI lk Bg S len λA outer s H vs Q E hr K3=>?_
 obtain⟨t,h,z⟩:=tQ q fF A outer s H vs Q E hr K3;exact⟨t,h.DN,z⟩
noncomputable def gE2 (g h:Str):List V->List (Str×V)|[_,y,z]=>[(g,y),(h,z)]|_=>[]
noncomputable def gT2 (g h:Str):List Tr->List (Str×Tr)|[_,y,z]=>[(g,y),(h,z)]|_=>[]
theorem gR2:∀w ts vs,bJ w ts vs->ts.length=3->RK w (gT2 g h ts) (gE2 g h vs):=λw ts vs r hl=>by
 match ts,hl with
 |[a,b,c],_ =>
  obtain⟨x,r1,rfl,h1,h2⟩:=r.aY;obtain⟨y,r2,rfl,h3,h4⟩:=h2.aY;obtain⟨z,r3,rfl,h5,h6⟩:=h4.aY;rw[h6.bP];exact .cons h3 (.cons h5 .nil)
noncomputable def abI (K:W.Frag)(B:Addr):Prop:=∃nm q N bs bm hd sn sub ab tY dd j0 j1 j2 j3 j5 pL,K.lookup B=some (excClassObj nm q B N bs bm hd sn sub ab tY dd j0 j1 j2 j3 j5 pL)/\bm.contains (.type "BaseException")=true
theorem abH.kT (E:abH K mg B cs):abI K B:=by
 obtain⟨nm,q,N,bs,hd,sn,sub,ab,tY,dd,j0,j1,j2,j3,j5,pL,h⟩:=E.oB;exact⟨nm,q,N,bs,sP,hd,sn,sub,ab,tY,dd,j0,j1,j2,j3,j5,pL,h,by decide +kernel⟩
theorem sQ.amU (M:sQ K C f (.ref B::sP)):abI K C:=by
 obtain⟨nm,q,N,bs,sn,sub,ab,tY,dd,k0,k1,k2,k3,k5,h⟩:=M.kT;exact⟨nm,q,N,bs,_,true,sn,sub,ab,tY,dd,k0,k1,k2,k3,k5,_,h,by rw[zbH,show sP.contains (.type "BaseException")=true by decide +kernel,zcQ]⟩
theorem Np:(Value.ref C::.ref B::sP).contains (.ref C)=true:=by simp[zbH]
end
section
variable {K:W.Frag}{cl:Str->Addr}{k j n:Nat}{X:Cx}{f B:Addr}{fd:FuncData}{ps:List Str}{q:Fn}{m cB nn c:Str}{p cp ap np ep hp pos:Pos}{e o:Expr}{es:List Expr}{fr:En->Cs->R (List Tr)}{fo:Em}{lX:List Stmt}{sL:Stmt}{sh:Sm}{l:Nat}{cs:List Str}
theorem JM (hB:abI K B)(hC:sV ⟨K,cl,E0⟩ B cs)(hmB:X.mg cB=some (.ref B))
  (hc:wQ K (cl c)) (hM:dO K (cl c) m f) (F:aQ X.prog X.w X.K X.mg X.base (xj X.prog X.w) j f fd ps (dU K cl n q)) (hj:j<=k) (hb:fq X.K fd ps []) (ho:TV ⟨K,cl,E0⟩ k X.DN o fo) (ha:xw ⟨K,cl,E0⟩ k X.DN (e::es) fr)
  (hs:∀a,JC ⟨K,cl,E0⟩ 0 (X.mX a).DN (sL::lX) sh) (AB:X.di=X.env::X.outer:=by rfl) (Ju:X.env.frame=some X.env.locals:=by rfl)
  (hgB:Gl X cB:=by rfl) (TH:(cB == ("__debug__" : Str))=false:=by decide) (Sg:swapsWith (.Call (.Attribute o m ap) (e::es) [] cp) none ep.line X.env=pure false:=by rfl)
  (qy:dS e=false:=by rfl) (hpl:dG es=true:=by rfl)
  (ht:eval (.Call (.Attribute o m ap) (e::es) [] cp) X.env=(do
   let ov <-eval o X.env
   standAt ap.atName
   let (f,first) <-holding [ov] (getMethod ov m pl)
   callWith cp f first (backTo cp (starEach (e::es) X.env)) (backToKw cp (keywordEach [] X.env))):=by rfl) (D0:0<k:=by first|decide|omega):
  xx ⟨K,cl,E0⟩ k X (.Try [.Expr (.Call (.Attribute o m ap) (e::es) [] cp) ep] [.ExceptHandler (some (.Name cB np)) none (sL::lX) hp] [] [] pos) (Hj c m n q fo fr cs none sh):=by
 obtain⟨_,_,_,_,_,_,_,_,_,_,_,_,_,_,_,_,_,h,hbB⟩:=hB;exact Nn h hbB hC hmB hc hM F hj hb ho ha hs AB Ju hgB TH Sg qy hpl ht D0
end
noncomputable def kIf (a b:Sm)(τ:En):Bool->Cs->RS:=λx S=>if x=true then a τ S else b τ S
theorem ahZ:kIf a b τ true S=a τ S:=rfl
theorem ah0:kIf a b τ false S=b τ S:=rfl
theorem vIf:cy c a b τ S=(c τ S).bQ (kIf a b τ):=rfl
noncomputable def kRt:Tr->Cs->RS:=λt S=>.rt t S
theorem ah1:kRt t S = .rt t S:=rfl
theorem amW:aD f τ S=(f τ S).bQ kRt:=rfl
noncomputable def kNx {α:Type}(τ:En):α -> Cs->RS:=λ_ S=>.nx τ S
theorem ah2 {α:Type}{τ:En}{t:α}{S:Cs}:kNx τ t S = .nx τ S:=rfl
theorem ah3:dW f τ S=(f τ S).bQ (kNx τ):=rfl
noncomputable def xH (i:Nat)(τ:En):Tr->Cs->RS:=λt S=>.nx (τ.set i (some t)) S
theorem amX:bh i f τ S=(f τ S).bQ (xH i τ):=rfl
noncomputable def kEn:En->Cs->RS:=λτ S=>.nx τ S
theorem ah4:kEn τ S = .nx τ S:=rfl
noncomputable def ah5 (b:Tr->En->Cs->R En)(τ:En):Tr->Cs->RS:=λt S=>(b t τ S).bQ kEn
theorem abJ:ah5 b τ t S=(b t τ S).bQ kEn:=rfl
theorem amZ:mG f b τ S=(f τ S).bQ (ah5 b τ):=rfl
theorem ah6:ay τ S = .nx τ S:=rfl
theorem ah7:M6 τ S = .ct τ S:=rfl
noncomputable def Fi (cs:List Str)(f:Str)(τ:En)(t:Tr):Tr->Cs->RS:=λu S=>(pU cs f u t S).bQ (kNx τ)
theorem Nq:Fi cs f τ t u S=(pU cs f u t S).bQ (kNx τ):=rfl
noncomputable def Wi (cs:List Str)(f:Str)(fo:Em)(τ:En):Tr->Cs->RS:=λt S=>(fo τ S).bQ (Fi cs f τ t)
theorem TL:Wi cs f fo τ t S=(fo τ S).bQ (Fi cs f τ t):=rfl
theorem ah8:cC cs f fo fv τ S=(fv τ S).bQ (Wi cs f fo τ):=rfl
noncomputable def kB:Tr->Cs->R Bool:=λt S=>match t with|.bl b=>.ok b S|_=>.aA
theorem am0:kB (.bl b) S = .ok b S:=rfl
theorem vB:mB f τ S=(f τ S).az kB:=rfl
noncomputable def Cc (g:Tr->Tr->Cs->R Tr)(fb:Em)(τ:En):Tr->Cs->R Tr:=λt S=>(fb τ S).az (g t)
theorem abK:Cc g fb τ t S=(fb τ S).az (g t):=rfl
theorem am1:ai g fa fb τ S=(fa τ S).az (Cc g fb τ):=rfl
theorem vUn:mUn g fa τ S=(fa τ S).az g:=rfl
theorem vC:mC t τ S = .ok t S:=rfl
theorem ah9:bL g fr τ S=(fr τ S).az g:=rfl
noncomputable def gq (t:Tr):List Tr->Cs->R (List Tr):=λts S=>.ok (t::ts) S
theorem Nr:gq t ts S = .ok (t::ts) S:=rfl
noncomputable def Nt (r:En->Cs->R (List Tr))(τ:En):Tr->Cs->R (List Tr):=λt S=>(r τ S).az (gq t)
theorem TM:Nt r τ t S=(r τ S).az (gq t):=rfl
theorem aia:af f r τ S=(f τ S).az (Nt r τ):=rfl
theorem am2:aj τ S = .ok [] S:=rfl
noncomputable def Cd:List Tr->Cs->R Tr:=λts S=>if ts.length<=sizeLine then .ok (.tp ts) S else .aA
theorem am3:cL fr τ S=(fr τ S).az Cd:=rfl
noncomputable def AE:List Tr->Cs->R Tr:=λts S=>if ts.length<=sizeLine then .ok (.ls ts) S else .aA
theorem am4:kr fr τ S=(fr τ S).az AE:=rfl
noncomputable def Hl:List Tr->Cs->R Tr:=λts S=>if ts.length<=sizeLine then .ok (.hd S.length) (S++[.aM ts]) else .aA
theorem aib:oF fr τ S=(fr τ S).az Hl:=rfl
noncomputable def kFn (n:Nat)(q:Fn):List Tr->Cs->R Tr:=λts S=>if ts.length=n then q ts S else .aA
theorem vFn:dM n q fr τ S=(fr τ S).az (kFn n q):=rfl
noncomputable def uH (n:Nat)(q:Fn)(t:Tr):List Tr->Cs->R Tr:=λts S=>if (t::ts).length=n then q (t::ts) S else .aA
noncomputable def Wj (c m:Str)(n:Nat)(q:Fn)(fr:En->Cs->R (List Tr))(τ:En):Tr->Cs->R Tr:=λt S1=>match t with
 |.hd i=>(match iV S1 i with
  |some (c',fs)=>if c'=c/\(aH m fs).isNone=true then (fr τ S1).az (uH n q t) else .aA
  |none=>.aA)
 |_=>.aA
theorem TN:Wj c m n q fr τ (.hd i) S=match iV S i with
  |some (c',fs)=>if c'=c/\(aH m fs).isNone=true then (fr τ S).az (uH n q (.hd i)) else .aA
  |none=>.aA:=rfl
theorem aic:aR c m n q fo fr τ S=(fo τ S).az (Wj c m n q fr τ):=rfl
noncomputable def uI (k:Nat):Tr->Cs->R Tr:=λr S=>match r with|.bz=>.ok (.hd k) S|_=>.aA
theorem Nu:uI k .bz S = .ok (.hd k) S:=rfl
noncomputable def Ho (c:Str)(n:Nat)(q:Fn):List Tr->Cs->R Tr:=λts S1=>if ts.length+1=n then (q (.hd S1.length::ts) (S1++[.fH c []])).az (uI S1.length) else .aA
theorem aid:yt c n q fr τ S=(fr τ S).az (Ho c n q):=by
 unfold yt Ho uI;rfl
theorem am5:bB cs f fo τ S=(fo τ S).az (JF cs f):=rfl
noncomputable def abL (a b:Em)(τ:En):Bool->Cs->R Tr:=λx S=>if x=true then a τ S else b τ S
theorem abM:abL a b τ true S=a τ S:=rfl
theorem abN:abL a b τ false S=b τ S:=rfl
theorem am6:DW c a b τ S=(c τ S).az (abL a b τ):=rfl
noncomputable def aie:Tr->Cs->R Tr:=λt S=>match t with|.bl b=>.ok (.bl (!b)) S|_=>.aA
theorem abO:aie (.bl b) S = .ok (.bl (!b)) S:=rfl
theorem am7:JD f τ S=(f τ S).az aie:=rfl
noncomputable def abP (tb:En->Cs->R Bool)(τ:En):Bool->Cs->R Bool:=λx S=>if x=true then tb τ S else .ok false S
theorem abQ:abP tb τ true S=tb τ S:=rfl
theorem abR:abP tb τ false S = .ok false S:=rfl
theorem am8:mD ta tb τ S=(ta τ S).az (abP tb τ):=rfl
noncomputable def kOr (tb:En->Cs->R Bool)(τ:En):Bool->Cs->R Bool:=λx S=>if x=true then .ok true S else tb τ S
theorem aif:kOr tb τ true S = .ok true S:=rfl
theorem aih:kOr tb τ false S=tb τ S:=rfl
theorem vOr:EZ ta tb τ S=(ta τ S).az (kOr tb τ):=rfl
noncomputable def Wk:Bool->Cs->R Bool:=λx S=>.ok (!x) S
theorem TQ:Wk x S = .ok (!x) S:=rfl
theorem aii:xy ta τ S=(ta τ S).az Wk:=rfl
noncomputable def Wl (fb:Em)(τ:En):Tr->Cs->R Tr:=λt S=>amQ t (fb τ S) S
theorem TR:Wl fb τ (.bl b) S=if b=true then fb τ S else .ok (.bl false) S:=by cases b<;>rfl
theorem aij:i8 fa fb τ S=(fa τ S).az (Wl fb τ):=rfl
noncomputable def aik (fb:Em)(τ:En):Tr->Cs->R Tr:=λt S=>orV t (fb τ S) S
theorem abS:aik fb τ (.bl b) S=if b=true then .ok (.bl true) S else fb τ S:=by cases b<;>rfl
theorem ana:V8 fa fb τ S=(fa τ S).az (aik fb τ):=rfl
noncomputable def ail (ck:Cs->Tr->Bool)(g:Tr->List Tr->Cs->R Tr)(fr:En->Cs->R (List Tr))(τ:En):Tr->Cs->R Tr:=λt S=>if ck S t=true then (fr τ S).az (g t) else .aA
theorem abT:ail ck g fr τ t S=if ck S t=true then (fr τ S).az (g t) else .aA:=rfl
theorem anb:pR ck g fo fr τ S=(fo τ S).az (ail ck g fr τ):=rfl
noncomputable def aim (b:Tr->En->Cs->R En)(f:Sm)(τ:En):xD->Cs->RS:=λs S=>iN s.iC b f s.items τ S
theorem abU:aim b f τ s S=iN s.iC b f s.items τ S:=rfl
theorem anc:qT fi b f τ S=(fi τ S).bQ (aim b f τ):=rfl
theorem vIt:qS g f τ S=(f τ S).az g:=rfl
noncomputable def Nv (n:Nat)(q:Fn)(cs:List Str)(l:Option Nat)(sh:Sm)(τ:En)(t:Tr):List Tr->Cs->RS:=λts S=>if (t::ts).length=n then lE cs l sh τ (q (t::ts) S) else .aA
theorem TU:Nv n q cs l sh τ t ts S=if (t::ts).length=n then lE cs l sh τ (q (t::ts) S) else .aA:=rfl
noncomputable def ain (c m:Str)(n:Nat)(q:Fn)(fr:En->Cs->R (List Tr))(cs:List Str)(l:Option Nat)(sh:Sm)(τ:En):Tr->Cs->RS:=λt S1=>match t with
 |.hd i=>(match iV S1 i with
  |some (c',fs)=>if c'=c/\(aH m fs).isNone=true then (fr τ S1).bQ (Nv n q cs l sh τ t) else .aA
  |none=>.aA)
 |_=>.aA
theorem abV:ain c m n q fr cs l sh τ (.hd i) S=match iV S i with
  |some (c',fs)=>if c'=c/\(aH m fs).isNone=true then (fr τ S).bQ (Nv n q cs l sh τ (.hd i)) else .aA
  |none=>.aA:=rfl
theorem ane:Hj c m n q fo fr cs l sh τ S=(fo τ S).bQ (ain c m n q fr cs l sh τ):=rfl
theorem Fj:lE cs l sh τ (.ok t S) = .nx τ S:=rfl
theorem JN:lE cs l sh τ (.ex e S)=match Cb S e with|some (c,_)=>if c∈cs then yw l (sh (AD l (some (.hd e)) τ) S) else .aA|none=>.aA:=rfl
theorem TX:yw l (.ct τ S) = .ct (AD l none τ) S:=rfl
theorem TY:yw l (.rt t S) = .rt t S:=rfl
noncomputable def RS.abW (r:RS):R Tr:=match r with|.nx _ S'=>.ok .bz S' | .rt t S'=>.ok t S' | .ex n S'=>.ex n S' | _=>.aA
theorem TZ (τ:En)(S:Cs):(RS.nx τ S).abW = .ok .bz S:=rfl
theorem T4 (t:Nat)(S:Cs):(RS.ex t S).abW = .ex t S:=rfl
theorem abX (t:Nat)(S:Cs)(g:Sm):(RS.ex t S).seq g = .ex t S:=rfl
noncomputable def Nx (c:Str)(n:Nat)(gT:List Tr->List (Str×Tr))(Hi:List Tr):List Tr->Cs->RS:=λts S1=>if ts.length+Hi.length=n/\n<=1000 then .ex S1.length (S1++[.xm c (gT (ts++Hi))]) else .aA
theorem Ny:Nx c n gT Hi ts S=if ts.length+Hi.length=n/\n<=1000 then .ex S.length (S++[.xm c (gT (ts++Hi))]) else .aA:=rfl
theorem abY:Az c n gT Hi fr τ S=(fr τ S).bQ (Nx c n gT Hi):=rfl
theorem abZ (i j:Nat)(fr:En->Cs->R (List Tr))(τ:En)(S:Cs):SX i j fr τ S=((fr τ S).bQ λts S1=>match ts with|[t,u]=>.nx ((τ.set i (some t)).set j (some u)) S1|_=>.aA):=rfl
theorem T5 (cs:List Str)(f:Str)(g:Int->Int->Int)(fo fv:Em)(τ:En)(S:Cs):yq cs f g fo fv τ S=((fo τ S).bQ λt S1=>match t with
 |.hd n=>(match iV S1 n with
  |some (c,fs)=>if c∈cs then (match aH f fs with
   |some (.int i)=>(fv τ S1).bQ λy S2=>(match y with
    |.int j=>(match iV S2 n with|some (c',K2)=>if c'=c/\K2.length<1000 then .nx τ (S2.set n (.fH c (cG f (.int (g i j)) K2))) else .aA|none=>.aA)
    |_=>.aA)
   |_=>.aA) else .aA
  |none=>.aA)
 |_=>.aA):=rfl
theorem Nz (g g':Tr->Tr->Cs->R Tr)(fa fb fc:Em)(τ:En)(S:Cs):m_ g g' fa fb fc τ S=((fa τ S).az λt1 S1=>(fb τ S1).az λt2 S2=>(g t1 t2 S2).az λz S3=>match z with
 |.bl true=>(fc τ S3).az λt3 S4=>g' t2 t3 S4
 |.bl false=>.ok (.bl false) S3
 |_=>.aA):=rfl
theorem ab0 (u:String)(fa:Em)(τ:En)(S:Cs):jG u fa τ S=((fa τ S).az λt S1=>match Lb S1 t with|some ty=>(match oq ty u with|some b=>.ok (.bl b) S1|none=>.aA)|none=>.aA):=rfl
theorem T6 (fo fe ff:Em)(τ:En)(S:Cs):G7 fo fe ff τ S=((fo τ S).az λt S1=>if ckD S1 t=true then (fe τ S1).az λj S2=>(ff τ S2).az λu S3=>(match JE S3 t,gJ j with|some m,some q=>.ok ((aH q m).getD u) S3|_,_=>.aA) else .aA):=rfl
theorem NC  (u0:En) (S:Cs):Fe  u0 S=(.ok (.hd S.length) (S++[.gS []])):=rfl
theorem T7 (ps:List (Em×Em))(τ:En)(S:Cs):jn ps τ S=((JG ps τ (S++[.gS []])).az λl S1=>match oG S1 S.length with
 |some []=>if l.length<=15 then .ok (.hd S.length) (S1.set S.length (.gS (eW [] l))) else .aA
 |_=>.aA):=rfl
theorem aio (g:Tr->Option Int->Option Int->Cs->R Tr)(fa:Em)(fl fh:En->Cs->R (Option Int))(τ:En)(S:Cs):mSl g fa fl fh τ S=((fa τ S).az λt S1=>(fl τ S1).az λlo S2=>(fh τ S2).az λhi S3=>g t lo hi S3):=rfl
theorem T8 (f:Em)(τ:En)(S:Cs):ux f τ S=((f τ S).az λt S1=>match t with|.int i=>.ok (some i) S1|_=>.aA):=rfl
theorem JO  (u0:En) (S:Cs):Ag  u0 S=(.ok none S):=rfl
theorem T9 (fo fi fv:Em)(τ:En)(S:Cs):oH fo fi fv τ S=((fv τ S).bQ λt S1=>(fo τ S1).bQ λu S2=>(fi τ S2).bQ λj S3=>(pT u j t S3).bQ λ_ S4=>.nx τ S4):=rfl
theorem T_ (n:Nat)(r:Bs)(t:Tr)(τ:En)(S:Cs):jM n r t τ S=(match MS t with|some l=>if l.length=n then r l τ S else .aA|none=>.aA):=rfl
theorem Ua (n:Nat)(r:Bs)(t:Tr)(τ:En)(S:Cs):G3 n r t τ S=(match xA S t with|some l=>if l.length=n then r l τ S else .aA|none=>.aA):=rfl
theorem Ub (b:Tr->En->Cs->R En)(r:Bs)(ts:List Tr)(τ:En)(S:Cs):cY b r ts τ S=(match ts with|t::l=>(b t τ S).az λfC S1=>r l fC S1|[]=>.aA):=rfl
theorem ab1  (ts:List Tr) (τ:En) (S:Cs):oS  ts τ S=(match ts with|[]=>.ok τ S|_=>.aA):=rfl
theorem ab2 (fo fi:Em)(t:Tr)(τ:En)(S:Cs):pS fo fi t τ S=((fo τ S).az λu S1=>(fi τ S1).az λj S2=>match u,j with
 |.hd n,.int i=>(match cu S2 n with|some l=>(match zK l.length i with|some m=>.ok τ (S2.set n (.aM (l.set m t)))|none=>.aA)|none=>.aA)
 |_,_=>.aA):=rfl
theorem Uc (fr:En->Cs->R (List Tr))(τ:En)(S:Cs):yr fr τ S=((fr τ S).az λts S1=>match ts with
 |[.int j]=>xu (-(2 ^ 62)<=j/\j<2 ^ 62) (.ok ⟨sI 0 j.toNat,λ_=>True⟩ S1) .aA
 |_=>.aA):=rfl
theorem anf (g:Int->Int->Tr)(t1:Tr)(t2:Tr)(S:Cs):gI g t1 t2 S=(match t1,t2 with
 |.int i,.int j=>.ok (g i j) S
 |_,_=>.aA):=rfl
theorem aip (c:Int->Int->Bool)(g:Int->Int->Tr)(t1:Tr)(t2:Tr)(S:Cs):K9 c g t1 t2 S=(match t1,t2 with
 |.int i,.int j=>if c i j=true then .ok (g i j) S else .aA
 |_,_=>.aA):=rfl
theorem ab3  (t1:Tr) (t2:Tr) (S:Cs):cO  t1 t2 S=(match t1,t2 with
 |.int i,.int j=>.ok (.int (i+j)) S
 |.str a,.str b=>if a.length+b.length<=sizeLine then .ok (.str (a++b)) S else .aA
 |.tp a,.tp b=>if a.isEmpty=false/\a.length+b.length<=sizeLine then .ok (.tp (a++b)) S else .aA
 |t1,t2=>match E6 S t1,E6 S t2 with
  |some a,some b=>if a.length+b.length<=sizeLine then .ok (.ls (a++b)) S else .aA
  |_,_=>.aA):=rfl
theorem ab4  (t1:Tr) (t2:Tr) (S:Cs):uq  t1 t2 S=(match t1,t2 with
 |.int i,.int j=>xu ((-(2 ^ 64)<i/\i<2 ^ 64)\/(-(2 ^ 64)<j/\j<2 ^ 64)) (.ok (.int (i * j)) S) .aA
 |.str a,.int n=>if 0<=n/\n<1000000/\a.length * n.toNat<=1000000 then .ok (.str (pJ a n.toNat)) S else .aA
 |_,_=>.aA):=rfl
theorem ND (neg:Bool)(a b:Str)(S:Cs):bY neg (.str a) (.str b) S = .ok (.bl (if neg=true then !decide (a=b) else decide (a=b))) S:=rfl
theorem NF (neg:Bool)(a b:Int)(S:Cs):bY neg (.int a) (.int b) S = .ok (.bl (if neg=true then !decide (a=b) else decide (a=b))) S:=rfl
theorem NG (neg:Bool)(a b:Bool)(S:Cs):bY neg (.bl a) (.bl b) S = .ok (.bl (if neg=true then !(a == b) else (a == b))) S:=rfl
theorem ab5 (neg:Bool)(a:Int)(S:Cs):bY neg (.int a) .bz S = .ok (.bl (if neg=true then !false else false)) S:=rfl
theorem ab6 (neg:Bool)(t1:Tr)(t2:Tr)(S:Cs):i9 neg t1 t2 S=(match t2 with
 |.bz=>.ok (.bl (if neg then !isN t1 else isN t1)) S
 |_=>.aA):=rfl
theorem aiq (neg:Bool)(t1:Tr)(t2:Tr)(S:Cs):uv neg t1 t2 S=(match t2 with
 |.str z=>(match t1 with|.str y=>.ok (.bl (if neg then !(!(Builtin.Str.occurrences z y 0 z.length 1).isEmpty) else !(Builtin.Str.occurrences z y 0 z.length 1).isEmpty)) S|_=>.aA)
 |t2=>match BW S t2 with
  |some l=>if iW t1=true/\l.all iW=true then .ok (.bl (if neg then !La t1 l else La t1 l)) S else .aA
  |none=>.aA):=rfl
theorem ab7 (neg:Bool)(t1:Tr)(t2:Tr)(S:Cs):BZ neg t1 t2 S=(match JE S t2,gJ t1 with
 |some m,some j=>.ok (.bl (if neg then !(aH j m).isSome else (aH j m).isSome)) S
 |_,_=>.aA):=rfl
theorem NH  (t1:Tr) (t2:Tr) (S:Cs):aL  t1 t2 S=(match t1,t2 with
 |.str z,.int i=>if z.length<=sizeLine then (match jK z.cps.toList i with|some c=>.ok (.str ⟨#[c]⟩) S|none=>.aA) else .aA
 |t1,.int i=>(match BW S t1 with
  |some l=>(match jK l i with|some t=>.ok t S|none=>.aA)
  |none=>.aA)
 |_,_=>.aA):=rfl
theorem ab8  (t1:Tr) (t2:Tr) (S:Cs):kE  t1 t2 S=(match JE S t1,gJ t2 with
 |some m,some j=>(match aH j m with|some t=>.ok t S|none=>.aA)
 |_,_=>.aA):=rfl
theorem ab9  (ts:List Tr) (S:Cs):iM  ts S=(match ts with
 |[.str z]=>if z.length<=sizeLine then .ok (.int z.length) S else .aA
 |[t]=>(match BW S t with|some l=>.ok (.int l.length) S|none=>match JE S t with|some m=>.ok (.int m.length) S|none=>.aA)
 |_=>.aA):=rfl
theorem Ud  (ts:List Tr) (S:Cs):pQ  ts S=(match ts with
 |[t]=>(match BW S t with|some l=>.ok (.ls l) S|none=>.aA)
 |_=>.aA):=rfl
theorem acd  (t:Tr) (ts:List Tr) (S:Cs):sH  t ts S=(match t,ts with
 |.hd n,[u]=>(match cu S n with|some l=>if l.length<sizeLine then .ok .bz (S.set n (.aM (l++[u]))) else .aA|none=>.aA)
 |_,_=>.aA):=rfl
theorem ace  (t:Tr) (ts:List Tr) (S:Cs):SQ  t ts S=(match t,ts with
 |.hd n,[u]=>(match cu S n,E6 S u with|some l,some m=>if l.length+m.length<=sizeLine then .ok .bz (S.set n (.aM (l++m))) else .aA|_,_=>.aA)
 |_,_=>.aA):=rfl
theorem Ue  (u0:En) (S:Cs):iX  u0 S=(.ok true S):=rfl
theorem Ug (fi:En->Cs->R xD)(fr:List Nat)(n:Nat)(b:Tr->En->Cs->R En)(c:En->Cs->R Bool)(f:Em)(τ:En)(S:Cs):gx fi fr n b c f τ S=((fi τ S).az λs S1=>(cW s.iC b c f s.items (iO fr n τ) [] S1).az λl S2=>.ok (.ls l) S2):=rfl
theorem NI (fi:En->Cs->R xD)(fr:List Nat)(n:Nat)(b:Tr->En->Cs->R En)(c:En->Cs->R Bool)(f:Em)(τ:En)(S:Cs):E_ fi fr n b c f τ S=((fi τ S).az λs S1=>(cW s.iC b c f s.items (iO fr n τ) [] S1).az λl S2=>.ok (.hd S2.length) (S2++[.aM l])):=rfl
theorem ang  (t:Tr) (S:Cs):iL  t S=(match t with
 |.ls l=>.ok ⟨l,λ_=>True⟩ S
 |.kl l=>.ok ⟨l,λ_=>True⟩ S
 |.hd n=>(match cu S n with|some l=>.ok ⟨l,λS'=>cu S' n=some l⟩ S|none=>.aA)
 |_=>.aA):=rfl
theorem acf  (t:Tr) (S:Cs):Ac  t S=(match t with|.int i=>.ok (.int (-i)) S|_=>.aA):=rfl
section
variable {prog:Program}{w:World}{A:Around}{E:Value->Shared->Prop}{s:Shared}{Z TI TO i1 i2:Addr}{A_ DQ:List Addr}{n1 n2 k:Nat}{Y1 Y2:Nat->Value->Prop}{S1 S2:Nat->Heap->Prop}{p q:Value}
theorem JP {Q:Fin->Shared->Prop}(D1:Draws prog w A i1 A_ n1 Y1 S1)(D2:Draws prog w A i2 DQ n2 Y2 S2)(N:tZ Z TI TO i1 i2 A_ DQ)(zZ:IsZip s.heap Z TI TO .none)(zI:IsPair s.heap TI (.ref i1) (.ref i2))(zO:IsPair s.heap TO p q)
  (s1:S1 k s.heap) (s2:S2 n2 s.heap) (l1:k<n1)
  (kk:∀h' tk x,(∀c o,c≠Z->c≠TO->c≠i1->c≠i2->s.heap.get? c=some o->h'.get? c=some o)->(∃o,h'.get? x=some o/\o.cls = .type "StopIteration")->E (.ref x) {s with heap:=h',toks:=tk}):
  wpAny (model prog w) A (Builtin.«zip.__next__» ⟨[.ref Z],[]⟩) Q E s:=by
 obtain⟨hp,g,d,tk0,os⟩:=s;show wpAny _ _ (field (.ref Z) 2 >>= _) _ _ _
 refine zaa (zax zZ rfl (x:=.bool false) rfl ?_)
 show wpAny _ _ (field (.ref Z) 3 >>= _) _ _ _
 refine zaa (zax zZ rfl (x:=.ref TI) rfl (zaa (zbm zI rfl ?_)))
 show wpAny _ _ (Builtin.SmallTypes.ownedTupleIsFree (.ref Z) >>= _) _ _ _
 refine zaa ?_
 unfold Builtin.SmallTypes.ownedTupleIsFree;refine zaa (zax zZ rfl (x:=.none) rfl (zac ?_))
 simp only[if_true];refine zaa (zcU (zaa (zax zZ rfl (x:=.ref TO) rfl ?_)))
 refine zaa (zbI zZ (by simp) λg1 Mq b1=>?_)
 replace Mq:IsZip g1 Z TI TO .ellipsis:=Mq
 replace b1:Heap.SameBut Z hp g1:=b1
 refine zaa ?_
 simp only[List.zipIdx_cons,List.zipIdx_nil,List.forIn_cons,List.forIn_nil];-- xN first
 refine zaa (zaa (zdb ?_))
 show wpAny _ _ (Builtin.SmallTypes.nextOf (.ref i1) >>= _) _ _ _
 refine zaa (D1.item k _ _ _ l1 (D1.frame _ _ _ s1 λb hb o e=>b1.extBut b o (λz=>N.b1 (z ▸ hb)) e) λx g2 t2 y1 s12 b2=>zac ?_)
 replace b2:Heap.SameBut i1 g1 g2:=b2
 have zO2:IsPair g2 TO p q:=b2.extBut _ _ N.a6 (b1.extBut _ _ N.a2 zO)
 refine zaa (zbm zO2 rfl (zaa (zdn zO2 λg3 zO3 b3=>?_)))
 replace zO3:IsPair g3 TO x q:=zO3
 replace b3:Heap.SameBut TO g2 g3:=b3
 refine zaa (zej (zac ?_))
 -- xN aaH
 refine zaa (zaa (zdb ?_))
 show wpAny _ _ (Builtin.SmallTypes.nextOf (.ref i2) >>= _) _ _ _
 refine zaa (D2.done _ _ _ (D2.frame _ _ _ s2 λb hb o e=>b3.extBut b o (λz=>N.c2 (z ▸ hb)) (b2.extBut b o (λz=>N.c3 (z ▸ hb)) (b1.extBut b o (λz=>N.c1 (z ▸ hb)) e))) λg4 x2 b4 hx=>?_)
 replace b4:Heap.ExtBut i2 g3 g4:=b4
 obtain⟨ox,ex,cx⟩:=hx;have zZ2:IsZip g4 Z TI TO .ellipsis:=b4 _ _ N.Jo.symm (b3.extBut _ _ N.a2.symm (b2.extBut _ _ N.a9.symm Mq))
 have xZ:x2≠Z:=λz=>by
  subst z;rw[zZ2] at ex;cases ex;simp at cx
 exact zbI zZ2 (by simp) λg5 _ b5=>kk g5 _ x2 (λc o m1 m2 m3 m4 e=>b5.extBut _ _ m1 (b4 _ _ m4 (b3.extBut _ _ m2 (b2.extBut _ _ m3 (b1.extBut _ _ m1 e))))) ⟨ox,b5.extBut _ _ xZ ex,cx⟩
theorem Fl {Q:Option Value->Shared->Prop}(D1:Draws prog w A.in1 i1 A_ n1 Y1 S1)(D2:Draws prog w A.in1 i2 DQ n2 Y2 S2)(N:tZ Z TI TO i1 i2 A_ DQ)(zZ:IsZip s.heap Z TI TO .none)(zI:IsPair s.heap TI (.ref i1) (.ref i2))(zO:IsPair s.heap TO p q)
  (s1:S1 k s.heap) (s2:S2 n2 s.heap) (l1:k<n1)
  (kk:∀h' tk,(∀c o,c≠Z->c≠TO->c≠i1->c≠i2->s.heap.get? c=some o->h'.get? c=some o)->Q none {s with heap:=h',toks:=tk}):wpAny (model prog w) A (pyNext (.ref Z)) Q E s:=by
 have zT:s.TypeIs (.ref Z) "zip" := ⟨_,zZ,rfl⟩
 unfold pyNext;refine zaa (zdc (zaN (name:=Str.ofString "__next__") zT zcx (zbj zcx zT zdR (JP D1 D2 N zZ zI zO s1 s2 l1 λh' tk x up hx=>?_) (zdG _))))
 obtain⟨ox,ex,cx⟩:=hx;exact zaa (zdS (T:= "StopIteration") (b:=true) ⟨ox,ex,cx⟩ zeq (zac (kk _ _ up)))
end
noncomputable def acg (K:W.Frag)(t6 yf:Bool)(a b:Addr):It:=
 ⟨(Itz K t6 yf a b).go,(Itz K t6 yf a b).yld,λi H=>(∃xs,BD K t6 H a xs/\xs.length=i)\/∃xs ys,BD K t6 H a xs/\i<xs.length/\BD K yf H b ys/\ys.length=i⟩
theorem JQ {P:Program}{w:World}{K:W.Frag}{elts:List Expr}{x1}{pos:Pos}(t6 yf:Bool)(a b n:Nat)(ha:a<n)(hb:b<n):
  Ed P w K (.Tuple elts x1 pos) (acg K t6 yf a b) [(n+4:Nat),(n+2:Nat),(n+3:Nat),n,(n+1:Nat)] (n+4:Nat)
   (λi h=>IsZip h (n+4:Nat) (n+2:Nat) (n+3:Nat) .none/\IsPair h (n+2:Nat) (.ref n) (.ref (n+1:Nat))/\(∃p q,IsPair h (n+3:Nat) p q)/\mW t6 h n a i/\mW yf h (n+1:Nat) b i) where
 mem:=(ki (P:=P) (w:=w) (K:=K) (elts:=elts) (x1:=x1) (pos:=pos) t6 yf a b n ha hb).mem
 kT:=(ki (P:=P) (w:=w) (K:=K) (elts:=elts) (x1:=x1) (pos:=pos) t6 yf a b n ha hb).kT
 keep:=(ki (P:=P) (w:=w) (K:=K) (elts:=elts) (x1:=x1) (pos:=pos) t6 yf a b n ha hb).keep
 item:=(ki (P:=P) (w:=w) (K:=K) (elts:=elts) (x1:=x1) (pos:=pos) t6 yf a b n ha hb).item
 self:=(ki (P:=P) (w:=w) (K:=K) (elts:=elts) (x1:=x1) (pos:=pos) t6 yf a b n ha hb).self
 done:=by
  intro X hP hw hK hc i ah s σ H E I hf t hg;rcases hg with hg|⟨xs,ys,hxs,nL,hys,hy⟩
  ·exact (ki (P:=P) (w:=w) (K:=K) (elts:=elts) (x1:=x1) (pos:=pos) t6 yf a b n ha hb).done X hP hw hK hc i ah s σ H E I hf t hg
  subst hP hw hK;obtain⟨zZ,zI,⟨p,q,zO⟩,t1,t2⟩:=t
  obtain⟨aI,rv,so,_⟩:=I.src hxs;obtain⟨Sb,zB,so',_⟩:=I.src hys;have hh:X.A.in1.handled=none:=I.ok.hd hc
  have D1:=kh (P:=X.prog) (w:=X.w) (A:=X.A.in1) hh t6 n a (K7 ha) aI.toArray
  have D2:=kh (P:=X.prog) (w:=X.w) (A:=X.A.in1) hh yf (n+1:Nat) b (K7 (by omega)) Sb.toArray
  have N:=t7 ha hb;have l1:i<aI.toArray.size:=by
   have:=rv.length
   simp
   omega
  have hn:Sb.toArray.size=i:=by
   have:=zB.length
   simp
   omega
  exact Fl D1 D2 N zZ zI zO ⟨t1,so⟩ (by rw[hn];exact⟨t2,so'⟩) l1 λh' tk up=>⟨rfl,I.zY (fp:=[(n+4:Nat),(n+2:Nat),(n+3:Nat),n,(n+1:Nat)]) (t':=tk) (λc o hc e=>up c o (λz=>hc (by simp[z])) (λz=>hc (by simp[z])) (λz=>hc (by simp[z])) (λz=>hc (by simp[z])) e) hf⟩
noncomputable def Wm (K:W.Frag)(ta:TA):TI:=λσ H R=>ta σ H λvs H1=>∃ κ a b xs ys,vs=[.ref a,.ref b]/\BD K κ H1 a xs/\BD K κ H1 b ys/\R (acg K κ κ a b) H1
theorem Uh {a b:Expr}{ta:TA}{p pos tp:Pos}{elts:List Expr}{x1}(hg:Gl X "zip")(hm:X.mg "zip"=none)(ha:PA X [a,b] ta)(hs:starEach [a,b] X.env=[(false,eval a X.env),(false,eval b X.env)]:=by rfl)(K1:starEach [b] X.env=[(false,eval b X.env)]:=by rfl):
  PI X (.Tuple elts x1 tp) (.Call (.Name "zip" p) [a,b] [] pos) (Wm X.K ta):=by
 intro ah s σ H R I h;refine Call_ (tH I hg hm Mt (zcF (cM (ha pos ah s σ H _ I h) λus s1 b_=>?_) (by rw[hs,K1]) (by rw[K1];rfl)))
 obtain⟨vs,H1,I1,r1,κ,l,m,xs,ys,ev,hl,hm',q⟩:=b_;subst ev;obtain⟨u1,u2,rfl,ru1,ru2⟩:=r1.two;cases (show u1=Value.ref l from ru1)
 cases (show u2=Value.ref m from ru2)
 obtain⟨aI,_,so,_⟩:=I1.src hl;obtain⟨Sb,_,so',_⟩:=I1.src hm';obtain⟨s4,zZ,zI,zO,e1,e2,up⟩:=Ms s1.heap (gX κ l) (gX κ m) t8 t8
 refine callType_new F.called_zip (by decide) (F.typeCall_zip_2 _ _) (F.newCall_zip_2 _ _) (λkT=>F.args_object_init_3 kT _ _) F.entry_zip_new (Jt κ l m aI.toArray Sb.toArray) ⟨so,so',?_⟩
 show _/\_
 rw[s4];refine⟨⟨_,zZ,rfl⟩,wpAny_pyIter_zip (s:={s1 with heap:=DS s1.heap (gX κ l) (gX κ m)}) zZ ?_⟩
 refine⟨_,_,_,acg X.K κ κ l m,H1,rfl,I1.gA (t':=s1.toks) up,JQ κ κ l m s1.heap.objs.size so.lt so'.lt,⟨zZ,zI,⟨_,_,zO⟩,BE e1,BE e2⟩,λc hc=>?_,q⟩
 have ge:s1.heap.objs.size<=c:=by
  simp only[zap,zaC,or_false] at hc;rcases hc with rfl|rfl|rfl|rfl|rfl
  ·exact zbr _ _
  ·exact zbr _ _
  ·exact zbr _ _
  ·exact zaf _
  ·exact zbr _ _
 exact I1.IS ge (I1.cA.fresh ge)
section
variable {G:Gx}{k:Nat}{X:Cx}{a b c o e tg:Expr}{es:List Expr}{fa fb f:Em}{fr:En->Cs->R (List Tr)}{pos p:Pos}
noncomputable def oW (l m:List Tr):List Tr:=(l.zip m).map λp=>Tr.tp [p.1,p.2]
theorem pY {l m:List Tr}{i:Nat}{t:Tr}(h:(oW l m)[i]? = some t):∃u v,l[i]? = some u/\m[i]? = some v/\t = .tp [u,v]:=by
 unfold oW at h;rw[zas] at h;cases e:(l.zip m)[i]? with
 |none=>rw[e] at h;cases h
 |some p =>
  rw[e] at h;cases h;obtain⟨u,j⟩:=p;rw[List.getElem?_zip_eq_some] at e;exact⟨u,j,e.1,e.2,rfl⟩
end
theorem AF {α:Type}(x:α):(some (some x)).join=some x:=rfl
noncomputable def ach:List Tr->Cs->R xD:=λts S1=>match ts with
 |[t,u]=>(iL t S1).az λs S2=>(iL u S2).az λs' S3=>.ok ⟨oW s.items s'.items,λS=>s.iC S/\s'.iC S⟩ S3
 |_=>.aA
theorem NJ {t u:Tr}{S:Cs}:ach [t,u] S=(iL t S).az λs S2=>(iL u S2).az λs' S3=>.ok ⟨oW s.items s'.items,λS=>s.iC S/\s'.iC S⟩ S3:=rfl
theorem gy {iC:Cs->Prop}{b:Tr->En->Cs->R En}{f:Sm}{l:List Tr}{τ:En}{S:Cs}{Z:RS}(e:iN iC b f l τ S=Z)(I:Nat->En->Cs->Prop)(hc:∀i τ S,I i τ S->iC S)(h0:I 0 τ S)(hs:∀i t τ S,l[i]? = some t->I i τ S->∃ou S2,((b t τ S).bQ f = .nx ou S2\/(b t τ S).bQ f = .ct ou S2)/\I (i+1) ou S2):∃qz S',I l.length qz S'/\Z = .nx qz S':=by
 have key:∀(l:List Tr) (n:Nat) (τ:En) (S:Cs),(∀i t τ S,l[i]? = some t->I (n+i) τ S->∃ou S2,((b t τ S).bQ f = .nx ou S2\/(b t τ S).bQ f = .ct ou S2)/\I (n+i+1) ou S2)->I n τ S->∃qz S',I (n+l.length) qz S'/\iN iC b f l τ S = .nx qz S':=by
  intro l;induction l with
  |nil=>intro n τ S h h0;exact⟨τ,S,h0,by unfold iN;rw[if_pos (hc n τ S h0)]⟩
  |cons t r ih =>
   intro n τ S h h0;obtain⟨ou,S2,e,h2⟩:=h 0 t τ S rfl h0;obtain⟨τ3,S3,h3,e3⟩:=ih (n+1) ou S2 (λi u τ S hu hI=>by
    have:=h (i+1) u τ S (by simpa using hu) (by rw[show n+(i+1)=n+1+i by omega];exact hI)
    rw[show n+(i+1)+1=n+1+i+1 by omega] at this
    exact this) h2
   refine⟨τ3,S3,by rw[zar,show n+(r.length+1)=n+1+r.length by omega];exact h3,?_⟩
   conv=>lhs;unfold iN
   rw[if_pos (hc n τ S h0)];cases hb:b t τ S with
   |ok fC S1 =>
    rw[hb,R.gG] at e;rw[R.gG];rcases e with e|e
    ·rw[e,Wf,e3]
    ·rw[e,ahR,e3]
   |ex n S1=>rw[hb,R.Sq] at e;rcases e with e|e<;>cases e
   |aA=>rw[hb,R.BO] at e;rcases e with e|e<;>cases e
 obtain⟨qz,S',h,e2⟩:=key l 0 τ S (λi t τ S ht hI=>by rw[zcP] at hI ⊢;exact hs i t τ S ht hI) h0
 rw[zcP] at h;exact⟨qz,S',h,by rw[<-e,e2]⟩
theorem yx {iC:Cs->Prop}{b:Tr->En->Cs->R En}{f:Em}(I:Nat->En->List Tr->Cs->Prop)(hc:∀i τ bU S,I i τ bU S->iC S):∀(l:List Tr) (n:Nat) (τ:En) (bU:List Tr) (S:Cs),
  (∀i t τ bU S,l[i]? = some t->I (n+i) τ bU S->∃fC u S3,b t τ S = .ok fC S/\f fC S = .ok u S3/\I (n+i+1) fC (bU++[u]) S3)->bU.length+l.length<=1000000->I n τ bU S->∃qz Fo S',I (n+l.length) qz Fo S'/\cW iC b iX f l τ bU S = .ok Fo S'
 |[],n,τ,bU,S,h,hl,h0=>⟨τ,bU,S,h0,uG (hc n τ bU S h0)⟩
 |t::r,n,τ,bU,S,h,hl,h0=>by
  obtain⟨fC,u,S3,e1,e2,h2⟩:=h 0 t τ bU S rfl h0;have Jg:bU.length+1+r.length<=1000000:=by simp at hl;omega
  obtain⟨τ3,ani,S4,h3,e3⟩:=yx I hc r (n+1) fC (bU++[u]) S3 (λi u τ bU S hu hI=>by
   have:=h (i+1) u τ bU S (by simpa using hu) (by rw[show n+(i+1)=n+1+i by omega];exact hI)
   rw[show n+(i+1)+1=n+1+i+1 by omega] at this
   exact this) (by simp;omega) h2
  refine⟨τ3,ani,S4,by rw[zar,show n+(r.length+1)=n+1+r.length by omega];exact h3,?_⟩
  rw[rR (hc n τ bU S h0),e1,ig,R.d7];show (jB (R.ok true S)).az _=_
  rw[ig,R.d7,if_pos rfl,e2,ig,R.d7,if_pos (zan (by omega:bU.length<1000000) (by decide)),e3]
theorem yy {iC:Cs->Prop}{b:Tr->En->Cs->R En}{f:Em}{l:List Tr}{τ:En}{S:Cs}{Z:R (List Tr)}(e:cW iC b iX f l τ [] S=Z)(I:Nat->En->List Tr->Cs->Prop)(hc:∀i τ bU S,I i τ bU S->iC S)(h0:I 0 τ [] S)(hl:l.length<=1000000)
  (hs:∀i t τ bU S,l[i]? = some t->I i τ bU S->∃fC u S3,b t τ S = .ok fC S/\f fC S = .ok u S3/\I (i+1) fC (bU++[u]) S3):∃qz Fo S',I l.length qz Fo S'/\Z = .ok Fo S':=by
 obtain⟨qz,Fo,S',h,e2⟩:=yx I hc l 0 τ [] S (λi t τ bU S ht hI=>by rw[zcP] at hI ⊢;exact hs i t τ bU S ht hI) (by simpa using hl) h0
 rw[zcP] at h;exact⟨qz,Fo,S',h,by rw[<-e,e2]⟩
noncomputable def nu (S S':Cs):Prop:=∃J,S'=S++J
theorem nu.refl (S:Cs):nu S S:=⟨[],by simp⟩
theorem nu.trans {S S1 S2:Cs}(h:nu S S1)(g:nu S1 S2):nu S S2:=by
 obtain⟨J,rfl⟩:=h;obtain⟨J2,rfl⟩:=g;exact⟨J++J2,by simp⟩
theorem nu.rJ {S S':Cs}(h:nu S S')(X:Cs):nu S (S'++X):=h.trans ⟨X,rfl⟩
theorem nu.get {S S':Cs}(h:nu S S'){i:Nat}{c:Ce}(e:S[i]? = some c):S'[i]? = some c:=by
 obtain⟨J,rfl⟩:=h;rw[zaj (zae.mp e).1];exact e
theorem pZ {S:Cs}{i:Nat}{c:Ce}(e:S[i]? = some c)(X:Cs):(S++X)[i]? = some c:=(nu.rJ (nu.refl S) X).get e
theorem Fp {S:Cs}{i:Nat}{c:Ce}(e:S[i]? = some c):i<S.length:=(zae.mp e).1
theorem Fq {S:Cs}{i j:Nat}{c d:Ce}(e:S[i]? = some c)(h:j≠i):(S.set j d)[i]? = some c:=by rw[zay h];exact e
theorem oX {S:Cs}{i:Nat}{d:Ce}(h:i<S.length):(S.set i d)[i]? = some d:=zaI h
end L2
namespace L2
open PySem PySem.Spec PyProof.Rows
section
variable {K:W.Frag}{cl:Str->Addr}{k j0 n:Nat}{X:Cx}{g B:Addr}{fd:FuncData}{ps:List Str}{q:Fn}{x y nn fn cB:Str}{xp p cp ap np yp np2 bp hp pos:Pos}{e:Expr}{es:List Expr}{fr:En->Cs->R (List Tr)}{i j l:Nat}{cs:List Str}
 {VW q':Str} {N':Addr} {VX:List Value} {rH:Bool} {VY:List Str} {BH:List Value} {VZ:Bool} {BI:Option Bool} {DP:Option Addr} {j1 j2 j3 j4 j5:Option Value} {mY:String}
end
noncomputable def air (K:W.Frag)(neg:Bool):R2:=λx y H Q=>∃a b xs ys,x = .ref a/\y = .ref b/\jC K H a xs/\jC K H b ys/\xs.length≠ys.length/\Q (.bl neg) H
theorem NK (hu:X.A.units<cLine):kQ X (compareOp .Eq) (air X.K false):=by
 intro ah s σ H x y v u Q I rx ry h;obtain⟨a,b,xs,ys,rfl,rfl,hp,hq,hn,k⟩:=h;cases rx;cases ry;obtain⟨aI,r1,p1,_⟩:=I.list hp;obtain⟨fY,r2,p2,_⟩:=I.list hq;have l1:=r1.length;have l2:=r2.length;exact SeqAt.eq_list_lengthsAt p1.isList p2.isList (by simp;omega) hu ⟨.bl false,H,I,rfl,k⟩
theorem NL (hu:X.A.units<cLine):kQ X (compareOp .NotEq) (air X.K true):=by
 intro ah s σ H x y v u Q I rx ry h;obtain⟨a,b,xs,ys,rfl,rfl,hp,hq,hn,k⟩:=h;cases rx;cases ry;obtain⟨aI,r1,p1,_⟩:=I.list hp;obtain⟨fY,r2,p2,_⟩:=I.list hq;have l1:=r1.length;have l2:=r2.length;have h:=SeqAt.RcNeAt.lists_lengths p1.isList p2.isList (by simp;omega) (show X.A.units<cLine from hu)
 exact h X.prog X.w _ _ ⟨.bl true,H,I,rfl,k⟩
noncomputable def Cf (neg:Bool):Tr->Tr->Cs->R Tr:=λt1 t2 S=>match xA S t1,xA S t2 with
 |some l,some m=>if l.length=m.length then bY neg t1 t2 S else .ok (.bl neg) S
 |_,_=>.aA
theorem aci {neg:Bool}:om G k (compareOp (if neg then .NotEq else .Eq)) (Cf neg):=.mk<|λX o ah s σ H x y v u Q I rx ry cX=>by
 obtain⟨w,S,t1,t2,hr,r1,r2,q⟩:=cX;unfold Cf at q;split at q
 ·rename_i l m e1 e2
  split at q
  ·exact (MX (G:=G) (k:=k) (neg:=neg)).kW X o ah s σ H x y v u Q I rx ry ⟨w,S,t1,t2,hr,r1,r2,q⟩
  ·rename_i hn
   obtain⟨a,xs,ea,sx,rx'⟩:=jl hr r1 e1;obtain⟨b,ys,eb,sy,ry'⟩:=jl hr r2 e2;rw[<-o.K] at sx sy;have q:=q w H _ (.refl w) hr gr
   have hl:xs.length≠ys.length:=by rw[rx'.len,ry'.len];exact hn
   cases neg with
   |true=>exact NL (zcS (zbr _ _) o.hu) ah s σ H x y v u Q I rx ry ⟨a,b,xs,ys,ea,eb,sx,sy,hl,q⟩
   |false=>exact NK (zcS (zbr _ _) o.hu) ah s σ H x y v u Q I rx ry ⟨a,b,xs,ys,ea,eb,sx,sy,hl,q⟩
 ·exact q.elim
theorem ais:om G k (compareOp .Eq) (Cf false):=aci (neg:=false)
noncomputable def NO:Tr->Tr->Cs->R Tr:=λt1 t2 S=>match E6 S t1,t2 with
 |some l,.int n=>if 0<=n/\n<1000000/\l.length * n.toNat<=1000000 then .ok (.ls (List.replicate n.toNat l).flatten) S else .aA
 |_,_=>.aA
theorem bJ.rep {w:Wd}{l:List Tr}{xs:List V}(h:bJ w l xs):∀n:Nat,bJ w (List.replicate n l).flatten (List.replicate n xs).flatten
 |0=>.nil
 |n+1=>by
  rw[zaz,zaz,zck,zck];exact h.rJ (bJ.rep h n)
theorem ait:om G k (binaryOp .Mult) NO:=.mk<|λX o ah s σ H x y v u Q I rx ry dP=>by
 obtain⟨w,S,t1,t2,hr,r1,r2,q⟩:=dP;unfold NO at q;split at q
 ·rename_i l n e1
  split at q
  ·rename_i h
   obtain⟨a,xs,ea,sx,rx'⟩:=qM hr r1 e1;have hm:(1000000:Nat)<=sizeLine:=by decide
   exact aar ah s σ H x y v u Q I rx ry ⟨a,_,xs,ea,aN r2,sx,by omega,by omega,by rw[rx'.len];omega,hr.jF (rx'.rep _) rfl q⟩
  ·exact q.elim
 ·exact q.elim
noncomputable def rS:List Tr->Cs->R xD:=λts S1=>match ts with
 |[t,u]=>(match MS t,MS u with
  |some l,some m=>.ok ⟨oW l m,λ_=>True⟩ S1
  |_,_=>ach [t,u] S1)
 |_=>.aA
noncomputable def rT (fr:En->Cs->R (List Tr)):En->Cs->R xD:=λτ S=>(fr τ S).az rS
section
variable {G:Gx}{k:Nat}{X:Cx}{a b c o e tg:Expr}{es:List Expr}{fa fb f:Em}{fr:En->Cs->R (List Tr)}{pos p:Pos}
theorem Ui (hK:X.K=G.K){σ:St}{H:Hp}{Q:It->Hp->Prop}(h:Tc G (rT fr) σ H Q):Wm X.K (EX G fr) σ H Q:=by
 obtain⟨w,S,τ,hr,sl,q⟩:=h;refine⟨w,S,τ,hr,sl,(aV.az q).mono λxs H1 b_=>?_⟩
 obtain⟨w1,S1,ts,cU,bH,r1,_,q1⟩:=b_;unfold rS at q1;split at q1
 ·rename_i t u _
  split at q1
  ·rename_i l l' e1 e2
   obtain⟨x,y,rfl,rx,ry⟩:=sR r1;obtain⟨p,xs,rfl,sq,R⟩:=g_ bH rx e1;obtain⟨p',xs',rfl,sq',R'⟩:=g_ bH ry e2;refine⟨true,p,p',xs,xs',rfl,by rw[hK];exact sq,by rw[hK];exact sq',q1 w1 H1 _ (.refl _) bH λw2 S2 H2 i hK2 hn iI hF dg hc=>?_⟩
   obtain⟨p2,ys,ep,Na,R2⟩:=g_ dg (rx.rP hK2 hn iI hF) e1
   cases ep;obtain⟨p2',Uj,ep',acj,R2'⟩:=g_ dg (ry.rP hK2 hn iI hF) e2
   cases ep';have Uk:BD X.K true H2 p ys:=by rw[hK];exact Na
   have Ft:BD X.K true H2 p' Uj:=by rw[hK];exact acj
   refine⟨λt et=>?_,λhi=>?_⟩
   ·obtain⟨u1,u2,eu1,eu2,rfl⟩:=pY et
    obtain⟨v1,ev1,rv1⟩:=R2.get eu1;obtain⟨v2,ev2,rv2⟩:=R2'.get eu2;refine⟨⟨ys,Uj,v1,v2,Uk,Ft,ev1,ev2⟩,λy H3 cX=>?_⟩
    obtain⟨T,z1,z2,hT,ey,eH,hz1,hz2⟩:=cX;have h1:=hz1 ys Uk;have h2:=hz2 Uj Ft;rw[ev1] at h1;rw[ev2] at h2;cases h1;cases h2;subst ey;subst eH;obtain⟨h3,iK⟩:=dg.lay hT (.fP [v1,v2])
    refine⟨_,iK,h3,?_⟩
    unfold RT;exact⟨T,_,rfl,au,.cons (RT.mono iK _ _ rv1) (.cons (RT.mono iK _ _ rv2) .nil)⟩
   ·have hi:i=(oW l l').length:=hi
    have hz:(oW l l').length=min l.length l'.length:=by simp[oW]
    rw[hz] at hi;by_cases hl:l.length<=l'.length
    ·exact .inl ⟨ys,Uk,by rw[R2.len,hi];omega⟩
    ·exact .inr ⟨ys,Uj,Uk,by rw[R2.len,hi];omega,Ft,by rw[R2'.len,hi];omega⟩
  ·rw[NJ] at q1
   obtain⟨x,y,rfl,rx,ry⟩:=sR r1;cases e:iL t S1 with
   |ok s S2 =>
    rw[e] at q1;obtain⟨rfl,p,l,rfl,⟨xs,sq,_⟩,ei,sj⟩:=Ak bH rx e
    rw[R.d7] at q1;cases e':iL u S2 with
    |ok s' S3 =>
     rw[e',R.d7] at q1;obtain⟨rfl,p',l',rfl,⟨xs',sq',_⟩,ei',aiz⟩:=Ak bH ry e'
     refine⟨false,p,p',xs,xs',rfl,by rw[hK];exact sq,by rw[hK];exact sq',q1 w1 H1 _ (.refl _) bH λw2 S2 H2 i hK2 hn iI hF dg hc=>?_⟩
     obtain⟨ys,Na,R2⟩:=sj w2 S2 H2 hK2 hn iI hF dg hc.1;obtain⟨Uj,acj,R2'⟩:=aiz w2 S2 H2 hK2 hn iI hF dg hc.2;have Uk:BD X.K false H2 p ys:=by rw[hK];exact Na
     have Ft:BD X.K false H2 p' Uj:=by rw[hK];exact acj
     refine⟨λt et=>?_,λhi=>?_⟩
     ·obtain⟨u1,u2,eu1,eu2,rfl⟩:=pY et
      rw[ei] at eu1;rw[ei'] at eu2;obtain⟨v1,ev1,rv1⟩:=R2.get eu1;obtain⟨v2,ev2,rv2⟩:=R2'.get eu2;refine⟨⟨ys,Uj,v1,v2,Uk,Ft,ev1,ev2⟩,λy H3 dP=>?_⟩
      obtain⟨T,z1,z2,hT,ey,eH,hz1,hz2⟩:=dP;have h1:=hz1 ys Uk;have h2:=hz2 Uj Ft;rw[ev1] at h1;rw[ev2] at h2;cases h1;cases h2;subst ey;subst eH;obtain⟨h3,iK⟩:=dg.lay hT (.fP [v1,v2])
      refine⟨_,iK,h3,?_⟩
      unfold RT;exact⟨T,_,rfl,au,.cons (RT.mono iK _ _ rv1) (.cons (RT.mono iK _ _ rv2) .nil)⟩
     ·have hi:i=(oW s.items s'.items).length:=hi
      have hz:(oW s.items s'.items).length=min l.length l'.length:=by rw[ei,ei'];simp[oW]
      rw[hz] at hi;by_cases hl:l.length<=l'.length
      ·exact .inl ⟨ys,Uk,by rw[R2.len,hi];omega⟩
      ·exact .inr ⟨ys,Uj,Uk,by rw[R2.len,hi];omega,Ft,by rw[R2'.len,hi];omega⟩
    |ex n S2=>exact absurd e' Al
    |aA=>rw[e',R.z9] at q1;exact q1.elim
   |ex n S2=>exact absurd e Al
   |aA=>rw[e,R.z9] at q1;exact q1.elim
 ·exact q1.elim
theorem Hq {tp:Pos}{elts:List Expr}{x1}(hm:X.mg "zip"=none)(ha:xw G k X [a,b] fr)(hg:Gl X "zip" := by rfl)(hs:dS a=false:=by rfl)(K1:dS b=false:=by rfl):M_ G k X (.Tuple elts x1 tp) (.Call (.Name "zip" p) [a,b] [] pos) (rT fr):=.mk<|λox=>(Uh hg hm (ha ox) (by rw[dH hs,dH K1];rfl) (by rw[dH K1];rfl)).wk λσ H Q h=>Ui ox.K h
end
theorem aiA {fr:En->Cs->R (List Tr)}{τ:En}{S:Cs}:rT fr τ S=(fr τ S).az rS:=rfl
end L2
namespace L2
open PySem PySem.Spec PyProof.Rows
section
variable {prog:Program}{w:World}{A:Around}{R:Result->Shared->Prop}{I:Addr}{fp wr:List Addr}{G:Array GenState->Array GenState->Prop}{n:Nat}{P:Nat->Value->Prop}{St:Nat->Shared->Prop}
end
section
variable {prog:Program}{w:World}{A:Around}{E:Value->Shared->Prop}{s:Shared}
end
end L2
namespace L2
open PySem PySem.Spec PyProof.Rows
end L2
namespace L2
open PySem PySem.Spec PyProof.Rows
section
variable {X:Cx}{k:Nat}{g B:Addr}{fd:FuncData}{ps:List Str}{sp:Sp}{e:Expr}{es:List Expr}{t:TA}{n fn cB:Str}{l:Nat}{p cp np ep hp pos:Pos}{lX:List Stmt}{sL:Stmt}{ts:TS}
 {VW q':Str} {N':Addr} {VX K6:List Value} {rH:Bool} {VY:List Str} {BH:List Value} {VZ:Bool} {BI:Option Bool} {DP:Option Addr} {j0 j1 j2 j3 j5:Option Value} {mY:String}
end
section
variable {K:W.Frag}{cl:Str->Addr}{k j n:Nat}{X:Cx}{g B:Addr}{fd:FuncData}{ps:List Str}{q:Fn}{cB nn fn:Str}{p cp np ep hp pos:Pos}{e:Expr}{es:List Expr}{fr:En->Cs->R (List Tr)}{lX:List Stmt}{sL:Stmt}{sh:Sm}{l:Nat}{cs:List Str}
end
noncomputable def keysOf:List Tr->Option (List dh)
 |[]=>some []
 |t::r=>(match gJ t,keysOf r with|some k,some l=>some (k::l)|_,_=>none)
noncomputable def yz:Tr->Option (List dh)|.tp l=>keysOf l|_=>none
noncomputable def sM (S:Cs)(t1 t2:Tr):Option (Option Tr):=match t1 with
 |.hd n=>(match S[n]? with
  |some (.gS l)=>(gJ t2).map λq=>aH q l
  |some (.xo l)=>(gJ t2).map λq=>aH q l
  |some (.i7 l)=>(yz t2).map λq=>aH q l
  |some (.sG l)=>(yz t2).map λq=>aH q l
  |_=>none)
 |_=>none
theorem yC:∀{l:List Tr} {q:List dh} {xs:List V},keysOf l=some q->bJ w l xs->xs=q.map kV
 |[],q,xs,e,r=>by cases e;rw[r.bP];rfl
 |t::l,q,xs,e,r=>by
  obtain⟨x,r',rfl,h1,h2⟩:=r.aY;unfold keysOf at e;split at e
  ·rename_i k1 l1 e1 e2
   cases e;rw[f9 e1 h1,yC e2 h2];rfl
  ·cases e
theorem uJ (e:yz t=some q)(r:RT w t v):∃p,v = .ref p/\w.F p=some (.fP (q.map kV)):=by
 cases t with
 |tp l =>
  unfold RT at r;obtain⟨p,xs,rfl,h,r⟩:=r;rw[yC e r] at h;exact⟨p,rfl,h⟩
 |_=>cases e
noncomputable def Wn (w:Wd)(ot:Option Tr)(ov:Option V):Prop:=match ot with|some t=>∃v,ov=some v/\RT w t v|none=>ov=none
theorem nO {κ:Type}[DecidableEq κ]{l:List (κ × Tr)}{m:List (κ × V)}(r:RK w l m)(j:κ):Wn w (aH j l) (mq m j):=by
 obtain⟨h1,h2⟩:=ng (k:=j) r
 cases e:aH j l with
 |none=>exact h2 e
 |some t=>exact h1 t e
theorem AG {S:Cs}{H:Hp}(hr:HR G w S H)(r1:RT w t1 x)(r2:RT w t2 y)(e:sM S t1 t2=some ot):∃p ov,x = .ref p/\mT H p y ov/\Wn w ot ov:=by
 unfold sM at e;split at e
 ·rename_i n
  have hx:=r1.cK.2;split at e
  ·rename_i l en
   rw[zbY] at e;obtain⟨q,ek,rfl⟩:=e;obtain⟨aK,h1,h2⟩:=hr.cell _ _ en;exact⟨_,_,hx,.inl ⟨aK,q,.inl h1,f9 ek r2,rfl⟩,nO h2 q⟩
  ·rename_i l en
   rw[zbY] at e;obtain⟨q,ek,rfl⟩:=e;obtain⟨ob,aK,h1,h2⟩:=hr.cell _ _ en;exact⟨_,_,hx,.inl ⟨aK,q,.inr ⟨ob,hr.sub _ _ h1⟩,f9 ek r2,rfl⟩,nO h2 q⟩
  ·rename_i l en
   rw[zbY] at e;obtain⟨q,ek,rfl⟩:=e;obtain⟨aK,h1,h2⟩:=hr.cell _ _ en;obtain⟨p,ey,hp⟩:=uJ ek r2;exact⟨_,_,hx,.inr ⟨aK,q,p,.inl h1,ey,hr.sub _ _ hp,rfl⟩,nO h2 q⟩
  ·rename_i l en
   rw[zbY] at e;obtain⟨q,ek,rfl⟩:=e;obtain⟨ob,aK,h1,h2⟩:=hr.cell _ _ en;obtain⟨p,ey,hp⟩:=uJ ek r2;exact⟨_,_,hx,.inr ⟨aK,q,p,.inr ⟨ob,hr.sub _ _ h1⟩,ey,hr.sub _ _ hp,rfl⟩,nO h2 q⟩
  ·cases e
 ·cases e
noncomputable def AH (neg:Bool):Tr->Tr->Cs->R Tr:=λt1 t2 S=>match sM S t2 t1 with|some o=>.ok (.bl (if neg then !o.isSome else o.isSome)) S|none=>.aA
theorem acm (h:dY G (ai (AH neg) fa fb) σ H Q):(if neg then zF (dY G fa) (dY G fb) else aaa (dY G fa) (dY G fb)) σ H Q:=by
 have h:=mZ h;have go:∀{σ H Q},ZU (r2 G (AH neg)) (dY G fa) (dY G fb) σ H Q->dY G fa σ H λy H1=>dY G fb σ H1 λx H2=>∃a o,x=V.ref a/\mT H2 a y o/\Q (.bl (if neg then !o.isSome else o.isSome)) H2:=λ{σ H Q} h=>by
  obtain⟨w,S,τ,hr,sl,q⟩:=h;refine⟨w,S,τ,hr,sl,q.mono λy H1 ⟨w1,S1,fC,bH,BF,q1⟩=>⟨w1,S1,fC,bH,BF,q1.mono λx H2 cX=>?_⟩⟩
  obtain⟨w2,S2,t1,t2,dg,r1,r2,q2⟩:=cX;unfold AH at q2;split at q2
  ·rename_i ot et
   obtain⟨p,ov,ex,g,hv⟩:=AG dg r2 r1 et;refine⟨p,ov,ex,g,?_⟩
   have es:ov.isSome=ot.isSome:=by
    cases ot with
    |none=>rw[show ov=none from hv];rfl
    |some t=>obtain⟨v,ev,_⟩:=hv;rw[ev];rfl
   rw[es];exact q2 w2 H2 _ (.refl _) dg gr
  ·exact q2.elim
 cases neg with
 |true=>exact go h
 |false=>exact go h
theorem acn (ha:TV G k X a fa)(hb:TV G k X b fb)(hm:behindInMarks .In b=false:=by with_unfolding_all rfl):BQ G k X (.Compare a [.In] [b] pos) (mB (ai (AH false) fa fb)):=.mk<|λo=>(Ll (LL o.Ss (ha o) (hb o)) hm).wk λ_ _ _ h=>acm (neg:=false) (pN h)
noncomputable def uK:Tr->Tr->Cs->R Tr:=λt1 t2 S=>match sM S t1 t2 with|some (some t)=>.ok t S|_=>.aA
theorem NP (ha:TV G k X a fa)(hb:TV G k X b fb)(hs:Ry b:=by intro _ _;rfl):TV G k X (.Subscript a b pos) (ai uK fa fb):=.mk<|λo=>(GH o.Ss (ha o) (hb o) hs).wk λσ H Q h=>by
 obtain⟨w,S,τ,hr,sl,q⟩:=mZ h;refine⟨w,S,τ,hr,sl,q.mono λx H1 ⟨w1,S1,fC,bH,BF,q1⟩=>⟨w1,S1,fC,bH,BF,q1.mono λy H2 kg=>?_⟩⟩
 obtain⟨w2,S2,t1,t2,dg,r1,r2,q2⟩:=kg;unfold uK at q2;split at q2
 ·rename_i t et
  obtain⟨p,ov,ex,g,v,rfl,rv⟩:=AG dg r1 r2 et;exact⟨p,v,ex,g,q2 w2 H2 v (.refl _) dg rv⟩
 ·exact q2.elim
noncomputable def p_:Em:=λ_ S=>.ok (.hd S.length) (S++[.i7 []])
theorem yD:TV G k X (.Dict [] [] pos) p_:=.mk<|λ_=>LO.wk λσ H Q h=>by
 obtain⟨w,S,τ,hr,sl,q⟩:=h;intro p hp;obtain⟨h2,le⟩:=hr.EW (c:=.i7 []) hp (o:=.dT []) rfl ⟨[],au,.nil⟩
 refine q _ _ _ le h2 ?_
 unfold RT;exact⟨by show S.length<w.n+1;rw[hr.n];exact zbi _,by show V.ref p=V.ref (if S.length=w.n then p else w.ρ S.length);rw[if_pos hr.n.symm]⟩
noncomputable def oJ (u j t:Tr)(S:Cs):R Unit:=match u with
 |.hd n=>(match S[n]? with
  |some (.gS m)=>(match gJ j with|some q=>if m.length<sizeLine then .ok () (S.set n (.gS (d8 m q t))) else .aA|none=>.aA)
  |some (.i7 m)=>(match yz j with|some q=>if m.length<sizeLine then .ok () (S.set n (.i7 (d8 m q t))) else .aA|none=>.aA)
  |_=>.aA)
 |_=>.aA
theorem NQ (hr:HR G w S H)(ru:RT w u x)(rj:RT w j y)(rt:RT w t v)(e:oJ u j t S = .ok () S'):∃a H',x = .ref a/\tS H a y v H'/\HR G w S' H':=by
 unfold oJ at e;split at e
 ·split at e
  ·rename_i m em
   split at e
   ·rename_i q ek
    split at e
    ·cases e
     obtain⟨aK,h1,h2⟩:=hr.cell _ _ em;refine⟨_,_,ru.cK.2,by rw[f9 ek rj];exact tS.k h1 (by rw[h2.len];assumption),?_⟩
     exact hr.zD em rfl rfl ⟨_,au,h2.zD q rt⟩
    ·cases e
   ·cases e
  ·rename_i m em
   split at e
   ·rename_i q ek
    split at e
    ·cases e
     obtain⟨aK,h1,h2⟩:=hr.cell _ _ em;obtain⟨p,ey,hp⟩:=uJ ek rj;refine⟨_,_,ru.cK.2,by rw[ey];exact tS.t h1 (hr.sub _ _ hp) (by rw[h2.len];assumption),?_⟩
     exact hr.zD em rfl rfl ⟨_,au,h2.zD q rt⟩
    ·cases e
   ·cases e
  ·cases e
 ·cases e
theorem Fv:oJ u j t S ≠ .ex n S':=by
 unfold oJ;split<;>(try split)<;>(try split)<;>(try split)<;>simp
noncomputable def qW (fo fi fv:Em):Sm:=λτ S=>(fv τ S).bQ λt S1=>(fo τ S1).bQ λu S2=>(fi τ S2).bQ λj S3=>(oJ u j t S3).bQ λ_ S4=>.nx τ S4
theorem Cg (ho:TV G k X o fo)(hi:TV G k X i fi)(hv:TV G k X value fv)(hs:swapsWith value (some (.Subscript o i jD)) pos.line X.env=pure false:=by rfl):xx G k X (.Assign [.Subscript o i jD] value pos) (qW fo fi fv):=.mk<|λox=>(GI ox.Ss (ho ox) (hi ox) (hv ox) hs).wk λD σ H h=>by
 obtain⟨w,S,τ,hr,sl,q⟩:=h;refine⟨w,S,τ,hr,sl,(bV.az q).mono λv H1 iy=>?_⟩
 obtain⟨w1,S1,t,cU,bH,r1,_,q1⟩:=iy;refine⟨w1,S1,τ,bH,sl.mono cU,(bV.az q1).mono λx H2 jj=>?_⟩
 obtain⟨w2,S2,u,eB,dg,r2,_,q2⟩:=jj;refine⟨w2,S2,τ,dg,(sl.mono cU).mono eB,(bV.az q2).mono λy H3 f6=>?_⟩
 obtain⟨w3,S3,j,iK,mz,r3,_,q3⟩:=f6;cases e:oJ u j t S3 with
 |ok z S4 =>
  rw[e] at q3;obtain⟨a,H4,e1,d,GZ⟩:=NQ mz (RT.mono iK _ _ r2) r3 (RT.mono (eB.trans iK) _ _ r1) e
  exact⟨a,H4,e1,d,q3 w3 _ σ (.refl _) GZ (((sl.mono cU).mono eB).mono iK)⟩
 |ex n S4=>exact absurd e Fv
 |aA=>rw[e] at q3;exact q3.elim
theorem HR.NR (h:HR G w S H){c c':Ce}(e:S[i]? = some c)(hc:c.fz=false)(Q4:c'.fz=true)(ok:∀w':Wd,w.le w'->w'.F (w.ρ i)=some o'->bE G w' (bu H (w.ρ i) o') (w.ρ i) c'):
  HR G {w with F:=bu w.F (w.ρ i) o' } (S.set i c') (bu H (w.ρ i) o')/\w.le {w with F:=bu w.F (w.ρ i) o' }:=by
 have hi:=(zae.mp e).1
 have li:fu S i:=⟨c,e,hc⟩
 have hF:w.F (w.ρ i)=none:=by rw[h.F];unfold Fz;rw[if_pos (.inl ⟨i,li,rfl⟩)]
 have le:w.le {w with F:=bu w.F (w.ρ i) o' }:=⟨rfl,zaf _,λ_ _=>rfl,λb u eb=>k9 hF eb,rfl⟩
 have lv:∀j,fu (S.set i c') j->fu S j/\j≠i:=λj jk=>by
  obtain⟨d,ed,hd⟩:=jk;by_cases hj:i=j
  ·subst hj
   rw[zaI hi] at ed;cases ed;rw[Q4] at hd;cases hd
  ·rw[zay hj] at ed
   exact⟨⟨d,ed,hd⟩,λz=>hj z.symm⟩
 have lv2:∀j,fu S j->j≠i->fu (S.set i c') j:=λj ⟨d,ed,hd⟩ hj=>⟨d,by rw[zay (λz=>hj z.symm)];exact ed,hd⟩
 refine⟨⟨h.K,by simp[h.n],?_,λj d ej=>?_,λa b la lb=>h.inj a b (lv a la).1 (lv b lb).1,z8 h.hid (h.ko i li),λj lj=>h.ko j (lv j lj).1,h.hl⟩,le⟩
 ·show bu w.F (w.ρ i) o'=Fz w.ρ w.hid (S.set i c') (bu H (w.ρ i) o')
  funext b
  unfold Fz;by_cases hb:b=w.ρ i
  ·subst hb
   rw[au,if_neg,au];rintro (⟨j,lj,z⟩|z)
   ·exact (lv j lj).2 (h.inj j i (lv j lj).1 li z)
   ·exact z (h.ko i li)
  ·rw[av hb,av hb,h.F]
   unfold Fz;have V6:(∃j,fu (S.set i c') j/\w.ρ j=b)↔∃j,fu S j/\w.ρ j=b:=⟨λpO=>by obtain⟨j,lj,z⟩:=pO;exact⟨j,(lv j lj).1,z⟩,λlg=>by obtain⟨j,lj,z⟩:=lg;exact⟨j,lv2 j lj (λq=>hb (by rw[<-z,q])),z⟩⟩
   by_cases hx:(∃j,fu S j/\w.ρ j=b)\/w.hid b≠none
   ·rw[if_pos hx,if_pos (hx.imp V6.mpr λz=>z)]
   ·rw[if_neg hx,if_neg (λz=>hx (z.imp V6.mp λz=>z))]
 ·by_cases hj:i=j
  ·subst hj
   rw[zaI hi] at ej;cases ej;exact ok _ le au
  ·rw[zay hj] at ej
   cases hd:d.fz with
   |true=>exact bE.MG le hd (h.cell j d ej)
   |false =>
    refine (h.cell j d ej).mono le λu eu=>?_
    rw[av λz=>hj (h.inj i j li ⟨d,ej,hd⟩ z.symm)]
    exact eu
noncomputable def NS:dh->Tr|.inl i=>.int i|.inr x=>.str x
noncomputable def iD:Tr->Cs->R xD:=λt S=>match t with
 |.hd n=>(match S[n]? with
  |some (.gS l)=>.ok ⟨l.map λp=>NS p.1,λ_=>True⟩ (S.set n (.xo l))
  |some (.xo l)=>.ok ⟨l.map λp=>NS p.1,λ_=>True⟩ S
  |some (.i7 l)=>.ok ⟨l.map λp=>.tp (p.1.map NS),λ_=>True⟩ (S.set n (.sG l))
  |some (.sG l)=>.ok ⟨l.map λp=>.tp (p.1.map NS),λ_=>True⟩ S
  |_=>.aA)
 |_=>.aA
theorem aco (q:dh):RT w (NS q) (kV q):=by
 cases q with
 |inl i=>exact eV
 |inr x=>exact k_
theorem AI:∀q:List dh,bJ w (q.map NS) (q.map kV)
 |[]=>.nil
 |k::r=>.cons (aco k) (AI r)
theorem AJ {a:Addr}(hF:w.F a=some (.qw ob u))(R:bJ w l ks):S_ G w ⟨l,λ_=>True⟩ (Itd a ob u ks):=λw1 S1 H1 i hK hn iI hF1 bH _=>by
 have ha:=bH.sub _ _ (hF1 _ _ hF)
 have R1:=R.rP hK hn iI hF1;refine⟨λt et=>?_,λhi=>⟨ha,by rw[R.len,hi];exact zaf _⟩⟩
 obtain⟨v,ev,rv⟩:=R1.get et;refine⟨⟨ha,(zae.mp ev).1⟩,λx H2 ⟨e2,ex⟩=>?_⟩
 subst e2;rw[ev] at ex;cases ex;exact⟨w1,.refl _,bH,rv⟩
theorem Wo (r:RK w l aK):bJ w (l.map λp=>NS p.1) (aK.map λp=>kV p.1):=by
 have e1:(l.map λp=>NS p.1)=(l.map Prod.fst).map NS:=by rw[zaK];rfl
 have e2:(aK.map λp=>kV p.1)=(aK.map Prod.fst).map kV:=by rw[zaK];rfl
 rw[e1,e2,r.1];exact AI _
theorem NT {H:Hp}{S:Cs}(Js:∀b xs,H b=some (.fP xs)->w.F b=some (.fP xs)):∀{aK:List (List dh×V)} {ks:List V},Paired (λ(p:List dh×V) (x:V)=>∃b,x = .ref b/\H b=some (.fP (p.1.map kV))) aK ks->bJ w ((aK.map Prod.fst).map λq=>.tp (q.map NS)) ks
 |_,_,.nil=>.nil
 |_,_,.cons ⟨b,ex,hb⟩ t=>.cons (by unfold RT;exact⟨b,_,ex,Js _ _ hb,AI _⟩) (NT (S:=S) Js t)
theorem HR.aiB (h:HR G w S H){b:Addr}(hb:H b=some (.fP xs)):w.F b=some (.fP xs):=by
 rw[h.F];unfold Fz;rw[if_neg,hb];rintro (⟨i,⟨c,e,n⟩,z⟩|z)
 ·have hc:=h.cell i c e
  rw[z] at hc;cases c with
  |aM l=>obtain⟨_,q,_⟩:=hc;rw[hb] at q;cases q
  |gS l=>obtain⟨_,q,_⟩:=hc;rw[hb] at q;cases q
  |i7 l=>obtain⟨_,q,_⟩:=hc;rw[hb] at q;cases q
  |fH c l=>obtain⟨_,_,q,_⟩:=hc;rw[hb] at q;cases q
  |xm c l=>obtain⟨_,_,_,q,_⟩:=hc;rw[hb] at q;cases q
  |ua=>cases n
  |xo l=>cases n
  |sG l=>cases n
 ·cases e:w.hid b with
  |none=>exact z e
  |some u =>
   have:=h.hid b u e
   rw[hb] at this;cases this;exact h.hl b xs e
theorem Hr (ha:TV G k X a fa):M_ G k X tg a (qS iD fa):=.mk<|λox=>(Sj (ha ox)).wk λσ H Q h=>by
 obtain⟨w,S,τ,hr,sl,q⟩:=h;refine⟨w,S,τ,hr,sl,(aV.az q).mono λx H1 b_=>?_⟩
 obtain⟨w1,S1,t1,cU,bH,r1,_,q1⟩:=b_;unfold iD at q1;split at q1
 ·rename_i n _
  have hx:=r1.cK.2;split at q1
  ·rename_i l en
   obtain⟨aK,h1,h2⟩:=bH.cell _ _ en;refine⟨_,.dK aK,hx,trivial,.inl ⟨h1,λob ks hk=>?_⟩⟩
   obtain⟨dg,eB⟩:=bH.NR en rfl (c':=.xo l) rfl (o':=.qw ob (.dK aK)) (λw' le' hF=>⟨ob,aK,hF,h2.mono le'⟩)
   cases (show ks=_ from hk)
   exact q1 _ _ _ eB dg (AJ au (Wo (h2.mono eB)))
  ·rename_i l en
   obtain⟨ob,aK,h1,h2⟩:=bH.cell _ _ en;refine⟨_,.dK aK,hx,trivial,.inr ⟨ob,bH.sub _ _ h1,λks hk=>?_⟩⟩
   cases (show ks=_ from hk)
   exact q1 _ _ _ (.refl _) bH (AJ h1 (Wo h2))
  ·rename_i l en
   obtain⟨aK,h1,h2⟩:=bH.cell _ _ en;refine⟨_,.dT aK,hx,trivial,.inl ⟨h1,λob ks hk=>?_⟩⟩
   obtain⟨dg,eB⟩:=bH.NR en rfl (c':=.sG l) rfl (o':=.qw ob (.dT aK)) (λw' le' hF=>⟨ob,aK,hF,h2.mono le'⟩)
   have R:=NT (S:=S1) (w:={w1 with F:=bu w1.F (w1.ρ n) (.qw ob (.dT aK))}) (λb xs hb=>eB.F _ _ (bH.aiB hb)) hk
   rw[h2.1,zaK] at R;exact q1 _ _ _ eB dg (AJ au R)
  ·rename_i l en
   obtain⟨ob,aK,h1,h2⟩:=bH.cell _ _ en;refine⟨_,.dT aK,hx,trivial,.inr ⟨ob,bH.sub _ _ h1,λks hk=>?_⟩⟩
   have R:=NT (S:=S1) (λb xs hb=>bH.aiB hb) hk
   rw[h2.1,zaK] at R;exact q1 _ _ _ (.refl _) bH (AJ h1 R)
  ·exact q1.elim
 ·exact q1.elim
noncomputable def qa (H:Hp):List V->List (dh×V)->Prop
 |[],[]=>True
 |x::xs,(q,v)::r=>(∃a,x = .ref a/\H a=some (.fP [kV q,v]))/\qa H xs r
 |_,_=>False
theorem qa.len:∀{xs:List V} {r:List (dh×V)},qa H xs r->xs.length=r.length
 |[],[],_=>rfl
 |x::xs,(q,v)::r,h=>by simp[qa.len h.2]
 |[],_::_,h=>h.elim
 |_::_,[],h=>h.elim
theorem qa.get:∀{xs:List V} {r:List (dh×V)} {i:Nat} {x:V},qa H xs r->xs[i]? = some x->∃q v a,r[i]? = some (q,v)/\x = .ref a/\H a=some (.fP [kV q,v])
 |[],[],i,x,_,e=>by simp at e
 |y::xs,(q,v)::r,0,x,h,e=>by
  simp at e
  subst e;obtain⟨a,e1,e2⟩:=h.1;exact⟨q,v,a,rfl,e1,e2⟩
 |y::xs,(q,v)::r,i+1,x,h,e=>by simpa using qa.get (i:=i) h.2 (by simpa using e)
 |[],_::_,_,_,h,_=>h.elim
 |_::_,[],_,_,h,_=>h.elim
theorem Hs {r:List (dh×V)}(h:∀i q v,r[i]? = some (q,v)->(kv i).1=q/\bG v (kv i).2):∀n,n<=r.length->KV (gn [] (r.take n)) (t_ kv n)
 |0,_=>.nil
 |n+1,hn=>by
  have ih:=Hs h n (by omega)
  have e:r.take (n+1)=r.take n++[r[n]'(by omega)]:=by rw[List.take_add_one,zag (by omega)];rfl
  obtain⟨e1,e2⟩:=h n (r[n]'(by omega)).1 (r[n]'(by omega)).2 (zag (by omega))
  rw[e];unfold gn t_;rw[zcC];show KV (j9 (gn [] (r.take n)) (r[n]'(by omega)).1 (r[n]'(by omega)).2) (stored (t_ kv n) (kv n).1 (kv n).2)
  rw[e1];exact ih.zD _ e2
theorem Fw (hc:X.fL=true):jI X (.type "dict") (λxs H Q=>∃(p:Addr) (ys:List V) (r:List (dh×V)),xs=[.ref p]/\H p=some (.aM ys)/\qa H ys r/\r.length<=1000/\∀l,H l=none->Q (.ref l) (bu H l (.dK (gn [] r)))):=by
 intro ah s σ H xs us Q I rr h;obtain⟨p,ys,r,rfl,hp,hr,hl,q⟩:=h;obtain⟨u,rfl,ru⟩:=oz rr;cases ru;obtain⟨aI,n,rv,e,_⟩:=I.aM hp;have c_:aI.length=r.length:=by rw[<-rv.length,hr.len]
 -- xN afH,qC and qG of xN apO
 have tM:∀i,i<r.length->∃(a:Addr) (kk vv:Value),aI[i]? = some (.ref a)/\qJ s.heap a kk vv/\mP (r.getD i (.inl 0,.bz)).1 kk=true/\bG (r.getD i (.inl 0,.bz)).2 vv:=λi hi=>by
  have hy:i<ys.length:=by rw[hr.len];exact hi
  obtain⟨kq,v,a,e1,e2,e3⟩:=hr.get (zag hy)
  obtain⟨u,hu,ru⟩:=rv.get (zag hy)
  rw[e2] at ru;cases (show u=Value.ref a from ru)
  obtain⟨_,ws,zB,ob,ho,oc,m,od⟩:=(show bZ X.prog X.w H s.heap a (.fP [kV kq,v]) from I.cA a _ e3)
  obtain⟨w1,w2,rfl,g1,g2⟩:=zB.two;have eg:r.getD i (.inl 0,.bz)=(kq,v):=by rw[zdD,e1];rfl
  rw[eg];exact⟨a,w1,w2,hu,⟨ob,m,ho,oc,od⟩,rE (P:=X.prog) (w:=X.w) g1,g2⟩
 let ad:Nat->Addr:=λi=>if h:i<r.length then (tM i h).choose else 0
 let kk:Nat->Value:=λi=>if h:i<r.length then (tM i h).choose_spec.choose else .none
 let kv:Nat->dh×Value:=λi=>if h:i<r.length then ((r.getD i (.inl 0,.bz)).1,(tM i h).choose_spec.choose_spec.choose) else (.inl 0,.none)
 have spec:∀i,i<r.length->aI[i]? = some (.ref (ad i))/\qJ s.heap (ad i) (kk i) (kv i).2/\mP (kv i).1 (kk i)=true/\(kv i).1=(r.getD i (.inl 0,.bz)).1/\bG (r.getD i (.inl 0,.bz)).2 (kv i).2:=λi hi=>by
  have:=(tM i hi).choose_spec.choose_spec.choose_spec
  simp only[ad,kk,kv,dif_pos hi];exact⟨this.1,this.2.1,this.2.2.1,trivial,this.2.2.2⟩
 have hsz:aI.toArray.size=r.length:=by simp[c_]
 refine sF (ad:=ad) (kk:=kk) (kv:=kv) (I.ok.hd hc) e (λi v hv=>?_) (λi hi=>(spec i (by omega)).2.2.1) (by omega) (λm hm=>(spec m (by omega)).2.1) λh' tk hS hk=>?_
 ·have hv:aI[i]? = some v:=by simpa using hv
  have hi:i<r.length:=by rw[<-c_];exact (zae.mp hv).1
  rw[(spec i hi).1] at hv;exact (zav hv).symm
 ·rw[hsz] at hS
  have hkv:KV (gn [] r) (t_ kv r.length):=by
   have:=Hs (kv:=kv) (r:=r) (λi kq v e1=>by
    have hi:i<r.length:=(zae.mp e1).1
    have eg:r.getD i (.inl 0,.bz)=(kq,v):=by rw[zdD,e1];rfl
    obtain⟨_,_,_,s4,s5⟩:=spec i hi;rw[eg] at s4 s5;exact⟨s4,s5⟩) r.length (zaf _)
   rwa[zbt] at this
  refine⟨.ref s.heap.objs.size,_,I.jA (t':=tk) hk (zaf _) (show bZ X.prog X.w _ _ _ (.dK (gn [] r)) from ⟨?_,beq_eq_false_iff_ne.mpr (zbg (zaq I.big)),_,hkv,hS⟩),rfl,q _ (I.cA.fresh (zaf _))⟩
  have h1:=z6 kv r.length;rw[hkv.length];exact zai h1 (zai hl (by decide))
noncomputable def qX:List Tr->Option (List (dh×Tr))
 |[]=>some []
 |.tp [a,b]::r=>(match gJ a,qX r with|some q,some l=>some ((q,b)::l)|_,_=>none)
 |_=>none
noncomputable def AK:List Tr->Cs->R Tr:=λts S=>match ts with
 |[t]=>(match E6 S t with|some l=>(match qX l with|some ps=>if ps.length<=1000 then .ok (.hd S.length) (S++[.gS (eW [] ps)]) else .aA|none=>.aA)|none=>.aA)
 |_=>.aA
theorem yE (hF:∀b o,w.F b=some o->H b=some o):∀{l:List Tr} {ps:List (dh×Tr)} {xs:List V},qX l=some ps->bJ w l xs->∃r,qa H xs r/\RK w ps r
 |[],ps,xs,e,rt=>by cases e;rw[rt.bP];exact⟨[],trivial,.nil⟩
 |.tp [a,b]::l,ps,xs,e,rt=>by
  obtain⟨x,xs',rfl,h1,h2⟩:=rt.aY;unfold qX at e;split at e
  ·rename_i q l' e1 e2
   cases e;obtain⟨r,g1,g2⟩:=yE hF e2 h2;unfold RT at h1;obtain⟨ad,ys,rfl,hy,ry⟩:=h1;obtain⟨y1,y2,rfl,ra,rb⟩:=sR ry;rw[f9 e1 ra] at hy;exact⟨(q,y2)::r,⟨⟨ad,rfl,hF _ _ hy⟩,g1⟩,.cons rb g2⟩
  ·cases e
 |.bz::_,_,_,e,_|.bl _::_,_,_,e,_|.int _::_,_,_,e,_|.str _::_,_,_,e,_|.ls _::_,_,_,e,_|.kt _::_,_,_,e,_|.kl _::_,_,_,e,_|.hd _::_,_,_,e,_=>by cases e
 |.tp []::_,_,_,e,_|.tp [_]::_,_,_,e,_|.tp (_::_::_::_)::_,_,_,e,_=>by cases e
theorem Ul (hk:0<k:=by first|decide|omega):nh G k (.type "dict") AK:=.mk<|λX o ah s σ H xs us Q I rv b_=>by
 obtain⟨w,S,ts,hr,r,q⟩:=b_;unfold AK at q;split at q
 ·obtain⟨x,rfl,r1⟩:=fU r
  split at q
  ·rename_i l el
   split at q
   ·rename_i ps ep
    split at q
    ·rename_i hl
     obtain⟨a,ys,rfl,ha,ry⟩:=qM hr r1 el;obtain⟨rp,h1,h2⟩:=yE hr.sub ep ry;refine Fw (o.fL hk) ah s σ H _ us Q I rv ⟨a,ys,rp,rfl,ha,h1,by rw[h2.len];exact hl,λp hp=>?_⟩
     obtain⟨dg,le⟩:=hr.EW (c:=.gS (eW [] ps)) hp (o:=.dK (gn [] rp)) rfl ⟨_,au,(RK.Bt h2 .nil).mono (w.uc p)⟩
     refine q _ _ _ le dg ?_
     unfold RT;exact⟨by show S.length<w.n+1;rw[hr.n];exact zbi _,by show V.ref p=V.ref (if S.length=w.n then p else w.ρ S.length);rw[if_pos hr.n.symm]⟩
    ·exact q.elim
   ·exact q.elim
  ·exact q.elim
 ·exact q.elim
section
variable {a0 a1 a2 a3 a4 a5 a6 a7 a8 a9 Jo a11 a12 a13 a14 a15 a16 a17 a18 a19:Option Tr}{x0 x1 x2 x3 x4 x5 x6 x7 x8 x9 iE iz x12 t y:Tr}{n0 n1 n2 n3 n4 n5 n6 n7 n8 n9 n10 n11 n12 n13 n14 n15 n16 c:Str}{r:En}{S:Cs}{sb:Sm}{q:Fn}{f:Tr->Cs->R β}{f':Tr->Cs->RS}{l:List Tr}{b:Bool}{z:Int}{g:Tr->Tr->Cs->R Tr}{fb:Em}{fr:En->Cs->R (List Tr)}{sc:Sm}{k n:Nat}{x:Str}{fs:List (Str×Tr)}
theorem sl {α:Type}{l:List α}(n:Nat)(h:l.length=n)(hn:n<=20:=by decide):l.length<=sizeLine:=by rw[h];exact zai hn (by decide)
theorem Wq {i:Int}(h:jK l i=some y):aL (.tp l) (.int i) S = .ok y S:=by rw[NH];simp only[BW,h]
theorem ixl {i:Int}(h:jK l i=some y):aL (.ls l) (.int i) S = .ok y S:=by rw[NH];simp only[BW,h]
theorem vV0:aa 0 (some t::r) S = .ok t S:=rfl
theorem bV0:(aa 0 (some t::r) S).az f=f t S:=rfl
theorem sV0:(aa 0 (some t::r) S).bQ f'=f' t S:=rfl
theorem bN0:bD 0 t (a0::r) S = .ok (some t::r) S:=rfl
theorem bV1:(aa 1 (a0::some t::r) S).az f=f t S:=rfl
theorem sV1:(aa 1 (a0::some t::r) S).bQ f'=f' t S:=rfl
theorem kS1:xH 1 (a0::a1::r) t S = .nx (a0::some t::r) S:=rfl
theorem bN1:bD 1 t (a0::a1::r) S = .ok (a0::some t::r) S:=rfl
theorem vV2:aa 2 (a0::a1::some t::r) S = .ok t S:=rfl
theorem bV2:(aa 2 (a0::a1::some t::r) S).az f=f t S:=rfl
theorem sV2:(aa 2 (a0::a1::some t::r) S).bQ f'=f' t S:=rfl
theorem kS2:xH 2 (a0::a1::a2::r) t S = .nx (a0::a1::some t::r) S:=rfl
theorem bN2:bD 2 t (a0::a1::a2::r) S = .ok (a0::a1::some t::r) S:=rfl
theorem vV3:aa 3 (a0::a1::a2::some t::r) S = .ok t S:=rfl
theorem bV3:(aa 3 (a0::a1::a2::some t::r) S).az f=f t S:=rfl
theorem sV3:(aa 3 (a0::a1::a2::some t::r) S).bQ f'=f' t S:=rfl
theorem kS3:xH 3 (a0::a1::a2::a3::r) t S = .nx (a0::a1::a2::some t::r) S:=rfl
theorem bN3:bD 3 t (a0::a1::a2::a3::r) S = .ok (a0::a1::a2::some t::r) S:=rfl
theorem bV4:(aa 4 (a0::a1::a2::a3::some t::r) S).az f=f t S:=rfl
theorem sV4:(aa 4 (a0::a1::a2::a3::some t::r) S).bQ f'=f' t S:=rfl
theorem kS4:xH 4 (a0::a1::a2::a3::a4::r) t S = .nx (a0::a1::a2::a3::some t::r) S:=rfl
theorem bN4:bD 4 t (a0::a1::a2::a3::a4::r) S = .ok (a0::a1::a2::a3::some t::r) S:=rfl
theorem bV5:(aa 5 (a0::a1::a2::a3::a4::some t::r) S).az f=f t S:=rfl
theorem kS5:xH 5 (a0::a1::a2::a3::a4::a5::r) t S = .nx (a0::a1::a2::a3::a4::some t::r) S:=rfl
theorem bN5:bD 5 t (a0::a1::a2::a3::a4::a5::r) S = .ok (a0::a1::a2::a3::a4::some t::r) S:=rfl
theorem bV6:(aa 6 (a0::a1::a2::a3::a4::a5::some t::r) S).az f=f t S:=rfl
theorem kS6:xH 6 (a0::a1::a2::a3::a4::a5::a6::r) t S = .nx (a0::a1::a2::a3::a4::a5::some t::r) S:=rfl
theorem bN6:bD 6 t (a0::a1::a2::a3::a4::a5::a6::r) S = .ok (a0::a1::a2::a3::a4::a5::some t::r) S:=rfl
theorem bV7:(aa 7 (a0::a1::a2::a3::a4::a5::a6::some t::r) S).az f=f t S:=rfl
theorem kS7:xH 7 (a0::a1::a2::a3::a4::a5::a6::a7::r) t S = .nx (a0::a1::a2::a3::a4::a5::a6::some t::r) S:=rfl
theorem bN7:bD 7 t (a0::a1::a2::a3::a4::a5::a6::a7::r) S = .ok (a0::a1::a2::a3::a4::a5::a6::some t::r) S:=rfl
theorem kS8:xH 8 (a0::a1::a2::a3::a4::a5::a6::a7::a8::r) t S = .nx (a0::a1::a2::a3::a4::a5::a6::a7::some t::r) S:=rfl
theorem bN8:bD 8 t (a0::a1::a2::a3::a4::a5::a6::a7::a8::r) S = .ok (a0::a1::a2::a3::a4::a5::a6::a7::some t::r) S:=rfl
theorem bN9:bD 9 t (a0::a1::a2::a3::a4::a5::a6::a7::a8::a9::r) S = .ok (a0::a1::a2::a3::a4::a5::a6::a7::a8::some t::r) S:=rfl
theorem anm:bD 10 t (a0::a1::a2::a3::a4::a5::a6::a7::a8::a9::Jo::r) S = .ok (a0::a1::a2::a3::a4::a5::a6::a7::a8::a9::some t::r) S:=rfl
theorem ano:bD 11 t (a0::a1::a2::a3::a4::a5::a6::a7::a8::a9::Jo::a11::r) S = .ok (a0::a1::a2::a3::a4::a5::a6::a7::a8::a9::Jo::some t::r) S:=rfl
theorem bC:(mC t r S).az f=f t S:=rfl
theorem sC:(mC t r S).bQ f'=f' t S:=rfl
theorem aiC:dN [n0] sb [x0] S=(sb [some x0] S).fS:=rfl
theorem aiD:dN [n0,n1] sb [x0] S=(sb [some x0,none] S).fS:=rfl
theorem aiE:dN [n0,n1,n2] sb [x0] S=(sb [some x0,none,none] S).fS:=rfl
theorem aiF:dN [n0,n1,n2,n3] sb [x0] S=(sb [some x0,none,none,none] S).fS:=rfl
theorem aiG:dN [n0,n1,n2,n3,n4,n5,n6,n7] sb [x0] S=(sb [some x0,none,none,none,none,none,none,none] S).fS:=rfl
theorem aiH:dN [n0,n1] sb [x0,x1] S=(sb [some x0,some x1] S).fS:=rfl
theorem aiI:dN [n0,n1,n2] sb [x0,x1] S=(sb [some x0,some x1,none] S).fS:=rfl
theorem aiJ:dN [n0,n1,n2,n3] sb [x0,x1] S=(sb [some x0,some x1,none,none] S).fS:=rfl
theorem aiK:dN [n0,n1,n2,n3,n4] sb [x0,x1] S=(sb [some x0,some x1,none,none,none] S).fS:=rfl
theorem aiL:dN [n0,n1,n2,n3,n4,n5] sb [x0,x1] S=(sb [some x0,some x1,none,none,none,none] S).fS:=rfl
theorem aiM:dN [n0,n1,n2,n3,n4,n5,n6] sb [x0,x1] S=(sb [some x0,some x1,none,none,none,none,none] S).fS:=rfl
theorem aiN:dN [n0,n1,n2,n3,n4,n5,n6,n7,n8] sb [x0,x1] S=(sb [some x0,some x1,none,none,none,none,none,none,none] S).fS:=rfl
theorem acp:dN [n0,n1,n2,n3,n4,n5,n6,n7,n8,n9,n10,n11] sb [x0,x1] S=(sb [some x0,some x1,none,none,none,none,none,none,none,none,none,none] S).fS:=rfl
theorem aiO:dN [n0,n1,n2] sb [x0,x1,x2] S=(sb [some x0,some x1,some x2] S).fS:=rfl
theorem aiP:dN [n0,n1,n2,n3] sb [x0,x1,x2] S=(sb [some x0,some x1,some x2,none] S).fS:=rfl
theorem aiQ:dN [n0,n1,n2,n3,n4] sb [x0,x1,x2] S=(sb [some x0,some x1,some x2,none,none] S).fS:=rfl
theorem aiR:dN [n0,n1,n2,n3] sb [x0,x1,x2,x3] S=(sb [some x0,some x1,some x2,some x3] S).fS:=rfl
theorem aiS:dN [n0,n1,n2,n3,n4] sb [x0,x1,x2,x3,x4] S=(sb [some x0,some x1,some x2,some x3,some x4] S).fS:=rfl
theorem aiT:fnX [n0,n1,n2,n3] sb [x0,x1] S=(sb [some x0,some x1,none,none] S).abW:=rfl
theorem kF1:kFn 1 q [x0] S=q [x0] S:=rfl
theorem kF2:kFn 2 q [x0,x1] S=q [x0,x1] S:=rfl
theorem kF3:kFn 3 q [x0,x1,x2] S=q [x0,x1,x2] S:=rfl
theorem kF4:kFn 4 q [x0,x1,x2,x3] S=q [x0,x1,x2,x3] S:=rfl
theorem kF5:kFn 5 q [x0,x1,x2,x3,x4] S=q [x0,x1,x2,x3,x4] S:=rfl
theorem kM1:uH 1 q t [] S=q [t] S:=rfl
theorem kM2:uH 2 q t [x0] S=q [t,x0] S:=rfl
theorem kM3:uH 3 q t [x0,x1] S=q [t,x0,x1] S:=rfl
theorem kK3:Ho c 3 q [x0,x1] S=(q [.hd S.length,x0,x1] (S++[.fH c []])).az (uI S.length):=rfl
theorem kK5:Ho c 5 q [x0,x1,x2,x3] S=(q [.hd S.length,x0,x1,x2,x3] (S++[.fH c []])).az (uI S.length):=rfl
theorem kL0:AE [] S = .ok (.ls []) S:=if_pos (sl 0 rfl)
theorem kC0:Hl [] S = .ok (.hd S.length) (S++[.aM []])  := if_pos (sl 0 rfl)
theorem kT1:Cd [x0] S = .ok (.tp [x0]) S:=if_pos (sl 1 rfl)
theorem kL1:AE [x0] S = .ok (.ls [x0]) S:=if_pos (sl 1 rfl)
theorem kT2:Cd [x0,x1] S = .ok (.tp [x0,x1]) S:=if_pos (sl 2 rfl)
theorem kL2:AE [x0,x1] S = .ok (.ls [x0,x1]) S:=if_pos (sl 2 rfl)
theorem kT3:Cd [x0,x1,x2] S = .ok (.tp [x0,x1,x2]) S:=if_pos (sl 3 rfl)
theorem kL3:AE [x0,x1,x2] S = .ok (.ls [x0,x1,x2]) S:=if_pos (sl 3 rfl)
theorem kT4:Cd [x0,x1,x2,x3] S = .ok (.tp [x0,x1,x2,x3]) S:=if_pos (sl 4 rfl)
theorem kL4:AE [x0,x1,x2,x3] S = .ok (.ls [x0,x1,x2,x3]) S:=if_pos (sl 4 rfl)
theorem kT5:Cd [x0,x1,x2,x3,x4] S = .ok (.tp [x0,x1,x2,x3,x4]) S:=if_pos (sl 5 rfl)
theorem kL5:AE [x0,x1,x2,x3,x4] S = .ok (.ls [x0,x1,x2,x3,x4]) S:=if_pos (sl 5 rfl)
theorem kC5:Hl [x0,x1,x2,x3,x4] S = .ok (.hd S.length) (S++[.aM [x0,x1,x2,x3,x4]])  := if_pos (sl 5 rfl)
theorem kT6:Cd [x0,x1,x2,x3,x4,x5] S = .ok (.tp [x0,x1,x2,x3,x4,x5]) S:=if_pos (sl 6 rfl)
theorem kT7:Cd [x0,x1,x2,x3,x4,x5,x6] S = .ok (.tp [x0,x1,x2,x3,x4,x5,x6]) S:=if_pos (sl 7 rfl)
theorem kL8:AE [x0,x1,x2,x3,x4,x5,x6,x7] S = .ok (.ls [x0,x1,x2,x3,x4,x5,x6,x7]) S:=if_pos (sl 8 rfl)
theorem anp:AE [x0,x1,x2,x3,x4,x5,x6,x7,x8,x9,iE,iz] S = .ok (.ls [x0,x1,x2,x3,x4,x5,x6,x7,x8,x9,iE,iz]) S:=if_pos (sl 12 rfl)
theorem iT0:aL (.tp (y::l)) (.int 0) S = .ok y S:=Wq (by simp[at0])
theorem iT1:aL (.tp (x0::y::l)) (.int 1) S = .ok y S:=Wq (by simp[at1])
theorem iT2:aL (.tp (x0::x1::y::l)) (.int 2) S = .ok y S:=Wq (by simp[at2])
theorem iT3:aL (.tp (x0::x1::x2::y::l)) (.int 3) S = .ok y S:=Wq (by simp[at3])
theorem iT4:aL (.tp (x0::x1::x2::x3::y::l)) (.int 4) S = .ok y S:=Wq (by simp[at4])
theorem iT5:aL (.tp (x0::x1::x2::x3::x4::y::l)) (.int 5) S = .ok y S:=Wq (by simp[at5])
theorem iT6:aL (.tp (x0::x1::x2::x3::x4::x5::y::l)) (.int 6) S = .ok y S:=Wq (by simp[at6])
theorem iT7:aL (.tp (x0::x1::x2::x3::x4::x5::x6::y::l)) (.int 7) S = .ok y S:=Wq (by simp[at7])
theorem iL0:aL (.ls (y::l)) (.int 0) S = .ok y S:=ixl (by simp[at0])
theorem iL1:aL (.ls (x0::y::l)) (.int 1) S = .ok y S:=ixl (by simp[at1])
theorem gIb:mE [.bl b] S = .ok (.int (if b then 1 else 0)) S:=rfl
theorem anq:ai g (aa 0) fb (some t::r) S=(fb (some t::r) S).az (g t):=rfl
theorem anr:Cc g (aa 0) (some t::r) y S=g y t S:=rfl
theorem aV0:af (aa 0) fr (some t::r) S=(fr (some t::r) S).az (gq t):=rfl
theorem ans:ai g (aa 1) fb (a0::some t::r) S=(fb (a0::some t::r) S).az (g t):=rfl
theorem ant:Cc g (aa 1) (a0::some t::r) y S=g y t S:=rfl
theorem aV1:af (aa 1) fr (a0::some t::r) S=(fr (a0::some t::r) S).az (gq t):=rfl
theorem anu:ai g (aa 2) fb (a0::a1::some t::r) S=(fb (a0::a1::some t::r) S).az (g t):=rfl
theorem anv:Cc g (aa 2) (a0::a1::some t::r) y S=g y t S:=rfl
theorem aV2:af (aa 2) fr (a0::a1::some t::r) S=(fr (a0::a1::some t::r) S).az (gq t):=rfl
theorem anw:ai g (aa 3) fb (a0::a1::a2::some t::r) S=(fb (a0::a1::a2::some t::r) S).az (g t):=rfl
theorem anx:Cc g (aa 3) (a0::a1::a2::some t::r) y S=g y t S:=rfl
theorem aV3:af (aa 3) fr (a0::a1::a2::some t::r) S=(fr (a0::a1::a2::some t::r) S).az (gq t):=rfl
theorem anz:ai g (aa 4) fb (a0::a1::a2::a3::some t::r) S=(fb (a0::a1::a2::a3::some t::r) S).az (g t):=rfl
theorem anA:Cc g (aa 4) (a0::a1::a2::a3::some t::r) y S=g y t S:=rfl
theorem aV4:af (aa 4) fr (a0::a1::a2::a3::some t::r) S=(fr (a0::a1::a2::a3::some t::r) S).az (gq t):=rfl
theorem anB:ai g (aa 5) fb (a0::a1::a2::a3::a4::some t::r) S=(fb (a0::a1::a2::a3::a4::some t::r) S).az (g t):=rfl
theorem aV5:af (aa 5) fr (a0::a1::a2::a3::a4::some t::r) S=(fr (a0::a1::a2::a3::a4::some t::r) S).az (gq t):=rfl
theorem anC:ai g (aa 6) fb (a0::a1::a2::a3::a4::a5::some t::r) S=(fb (a0::a1::a2::a3::a4::a5::some t::r) S).az (g t):=rfl
theorem aV6:af (aa 6) fr (a0::a1::a2::a3::a4::a5::some t::r) S=(fr (a0::a1::a2::a3::a4::a5::some t::r) S).az (gq t):=rfl
theorem anD:ai g (aa 7) fb (a0::a1::a2::a3::a4::a5::a6::some t::r) S=(fb (a0::a1::a2::a3::a4::a5::a6::some t::r) S).az (g t):=rfl
theorem aV7:af (aa 7) fr (a0::a1::a2::a3::a4::a5::a6::some t::r) S=(fr (a0::a1::a2::a3::a4::a5::a6::some t::r) S).az (gq t):=rfl
theorem anE:ai g (aa 8) fb (a0::a1::a2::a3::a4::a5::a6::a7::some t::r) S=(fb (a0::a1::a2::a3::a4::a5::a6::a7::some t::r) S).az (g t):=rfl
theorem aV8:af (aa 8) fr (a0::a1::a2::a3::a4::a5::a6::a7::some t::r) S=(fr (a0::a1::a2::a3::a4::a5::a6::a7::some t::r) S).az (gq t):=rfl
theorem aiU:ai g (aa 10) fb (a0::a1::a2::a3::a4::a5::a6::a7::a8::a9::some t::r) S=(fb (a0::a1::a2::a3::a4::a5::a6::a7::a8::a9::some t::r) S).az (g t):=rfl
theorem anF:af (aa 10) fr (a0::a1::a2::a3::a4::a5::a6::a7::a8::a9::some t::r) S=(fr (a0::a1::a2::a3::a4::a5::a6::a7::a8::a9::some t::r) S).az (gq t):=rfl
theorem aiV:ai g (aa 11) fb (a0::a1::a2::a3::a4::a5::a6::a7::a8::a9::Jo::some t::r) S=(fb (a0::a1::a2::a3::a4::a5::a6::a7::a8::a9::Jo::some t::r) S).az (g t):=rfl
theorem anG:af (aa 11) fr (a0::a1::a2::a3::a4::a5::a6::a7::a8::a9::Jo::some t::r) S=(fr (a0::a1::a2::a3::a4::a5::a6::a7::a8::a9::Jo::some t::r) S).az (gq t):=rfl
theorem sS5:(R.ok t S).bQ (xH 5 (a0::a1::a2::a3::a4::a5::r)) = .nx (a0::a1::a2::a3::a4::some t::r) S:=rfl
theorem kBC:Cc g (mC y) r t S=g t y S:=rfl
theorem kCN:Nt aj r t S = .ok [t] S:=rfl
theorem aC:af (mC t) fr r S=(fr r S).az (gq t):=rfl
theorem ln7:∀{p0 p1 p2 p3 p4 p5 p6:Str×Tr},([p0,p1,p2,p3,p4,p5,p6]:List (Str×Tr)).length=7:=rfl
theorem anH:∀{p0 p1 p2 p3 p4 p5 p6 p7 p8 p9 p10 p11:Str×Tr},([p0,p1,p2,p3,p4,p5,p6,p7,p8,p9,p10,p11]:List (Str×Tr)).length=12:=rfl
end
section
variable {G:Gx}{k:Nat}{X:Cx}{e o:Expr}{es:List Expr}{f:Em}{fo:Em}{fr:En->Cs->R (List Tr)}{x:Str}{pos jD p eO:Pos}{CX:_}{j n:Nat}{ad:Addr}{fd:FuncData}{ps:List Str}{q:Fn}{st:Stmt}{c m:Str}
theorem anI (i:Nat)(hN:X.N.Nodup)(he:TV G k X e f)(hi:X.N[i]? = some x:=by rfl)(hx:VC X.env.scope x:=by first|exact Or.inl rfl|exact Or.inr rfl)(hs:swapsWith e (some (.Name x jD)) pos.line X.env=pure false:=by rfl)(hf:X.fn x=true\/X.env.scope.names.lookup x=some .local:=by first|exact .inl rfl|exact .inr rfl|assumption):xx G k X (.Assign [.Name x jD] e pos) (bh i f):=abg hN hi hx he hs hf
theorem d9 (i:Nat)(hN:X.N.Nodup)(hi:X.N[i]? = some x:=by rfl)(hx:VC X.env.scope x:=by first|exact Or.inl rfl|exact Or.inr rfl)(hf:X.fn x=true\/X.env.scope.names.lookup x=some .local:=by first|exact .inl rfl|exact .inr rfl|assumption):GY G k X (.Name x pos) (bD i):=SS hN hi hx hf
theorem cJ (F:aQ X.prog X.w X.K X.mg X.base CX j ad fd ps (dU G.K G.cl n q))(D:nN X.K X.mg x st ps ad fd)(ha:xw G k X (e::es) fr)(hj:j<=k:=by decide)(hx:gF CX X G.E:=by first|exact aG|exact anJ)
  (hg:Gl X x:=by rfl) (tP:(x == ("__debug__" : Str))=false:=by decide) (he:dS e=false:=by rfl) (hpl:dG es=true:=by rfl) (D0:0<k:=by first|decide|omega):
  TV G k X (.Call (.Name x p) (e::es) [] pos) (dM n q fr):=Aq F hj D.m D.F.kp D.b hx ha hg tP he hpl D0
theorem Ht {F T:List Str}{ns:List Nat}{sc:Scope}(st:Stmt)(d:(∀y∈sc.names,y.2 ≠ .cell)/\(∀y∈sc.names,y.2 = .local->sc.names.lookup y.1=some .local)/\(∀y∈sc.names,y.2 = .free->(ak st).names.lookup y.1=some .cell)/\∀x∈F,sc.names.lookup x=some .free)(h1:sc.kind = .function:=by rfl)(h6:ns.map (λj=>X.N[j]?)=F.map some:=by rfl)(he:∀n,X.env.kindOf n=(ak st).names.lookup n:=by intro _;rfl):dc X F T ns sc:=⟨h1,d.1,d.2.1,λy hy h=>(he _).trans (d.2.2.1 y hy h),d.2.2.2,h6⟩
end
section
variable {prog:Program}{w:World}{A:Around}{E:Value->Shared->Prop}{s:Shared}{z0:Array Keyed}
end
section
variable {G:Gx}{k:Nat}{w:Wd}{X:Cx}{ah:List (Addr×Obj)}{s:Shared}{σ:St}{H:Hp}
end
end L2
namespace L2
open PySem PySem.Spec PyProof.Rows
noncomputable def Um (to:TE)(tl th:TO):TG:=λv σ H Q=>to σ H λx H1=>tl σ H1 λl H2=>th σ H2 λu H3=>∃p b xs ys a c,x = .ref p/\v = .ref b/\H3 p=some (.aM xs)/\H3 b=some (.aM ys)/\p≠b/\l=some a/\u=some c/\0<=a/\a<=c/\c<=xs.length/\xs.length+ys.length<=sizeLine/\Q σ (bu H3 p (.aM (xs.take a.toNat++ys++xs.drop c.toNat)))
section
variable {X:Cx}{o:Expr}{lo hi:Option Expr}{to:TE}{tl th:TO}{p2 pos:Pos}
theorem JR (ho:PE X o to)(hl:PO X lo tl)(hu:PO X hi th)
  (ha:∀v,assign (.Subscript o (.Slice lo hi none p2) pos) X.env v=(do
   let ov <-holding [v] (eval o X.env)
   let iv <-holding [v,ov] (eval (.Slice lo hi none p2) X.env)
   standAt pos
   holding [v,ov,iv] (setItem ov iv v)
   release [iv,v,ov] []):=by intro _;rfl):PG X (.Subscript o (.Slice lo hi none p2) pos) (Um to tl th):=by
 intro ah s σ H v u Q I r h;rw[ha];refine zaa (zaH (cM (ho ah s σ H _ I h) λov s1 b_=>?_))
 obtain⟨x,H1,I1,r1,q1⟩:=b_;refine zaa (zaH (wpAny_Slice (cM (hl ah s1 σ H1 _ I1 q1) λvl s2 cX=>?_)))
 obtain⟨l,H2,I2,pl,q2⟩:=cX;refine cM (hu ah s2 σ H2 _ I2 q2) λvu s3 dP=>?_
 obtain⟨u3,H3,I3,pu,q3⟩:=dP;refine zac ?_
 have I4:aJ X ah σ H3 { s3 with heap:=s3.heap.push { cls:=.type "slice",data:=.fields #[vl,vu,.none]} }:=I3.gA (t':=s3.toks) λb ob q=>zab _ q
 obtain⟨p,b,xs,ys,a,c,rfl,rfl,hp,hb,sA,rfl,rfl,h0,hac,hle,hz,q⟩:=q3;cases r1;cases r;obtain⟨z,aI,n,rr,V5,e⟩:=I4.wZ hp;obtain⟨z2,fY,n2,r2,Jg,e2⟩:=I4.wZ hb;obtain⟨a',rfl⟩:=zbh h0;obtain⟨c',rfl⟩:=zbh (Int.le_trans h0 hac)
 have hsz:aI.toArray.size=xs.length:=by rw[zam];omega
 have anK:fY.toArray.size=ys.length:=by rw[zam];omega
 refine zaa (zcg (zaa (zaH (w9 (a:=a') (c:=c') e e2 sA (Heap.IsSliceOf.new ..) pl pu (by omega) (by rw[hsz];omega) (by rw[hsz,anK];exact hz) ?_))))
 refine wpAny_release ⟨σ,_,I4.LX (its':=aI.take a'++fY++aI.drop c') (t':=s3.toks) hp e ?_ (bA.jh (bA.jh (rr.take _) r2) (rr.drop _)) ?_,q⟩
 ·exact Jh aI fY a' c'
 ·rw[zak,zak,zaG,zdd]
  omega
end
noncomputable def NU (fo fl fh:Em):Tr->En->Cs->R En:=λt τ S=>(fo τ S).az λu S1=>(fl τ S1).az λj S2=>match j with
 |.int i=>(fh τ S2).az λk S3=>(match u,k,t with
  |.hd n,.int c,.ls ys=>(match cu S3 n with|some l=>if 0<=i/\i<=c/\c<=l.length/\l.length+ys.length<=sizeLine then .ok τ (S3.set n (.aM (l.take i.toNat++ys++l.drop c.toNat))) else .aA|none=>.aA)
  |_,_,_=>.aA)
 |_=>.aA
section
variable {G:Gx}{k:Nat}{w:Wd}{X:Cx}{o:Expr}{fo fl fh:Em}{p2 pos:Pos}
theorem acq {lo hi:Expr}(ho:TV G k X o fo)(hl:TV G k X lo fl)(hh:TV G k X hi fh)(ha:∀v,assign (.Subscript o (.Slice (some lo) (some hi) none p2) pos) X.env v=(do
   let ov <-holding [v] (eval o X.env)
   let iv <-holding [v,ov] (eval (.Slice (some lo) (some hi) none p2) X.env)
   standAt pos
   holding [v,ov,iv] (setItem ov iv v)
   release [iv,v,ov] []):=by intro _;rfl):GY G k X (.Subscript o (.Slice (some lo) (some hi) none p2) pos) (NU fo fl fh):=.mk<|λox=>(JR (ho ox) (zH (hl ox)) (zH (hh ox)) ha).wk λv σ H Q h=>by
 obtain⟨w,S,τ,t,hr,sl,r,q⟩:=h;refine⟨w,S,τ,hr,sl,(aV.az q).mono λx H1 ⟨w1,S1,t1,cU,bH,r1,_,q1⟩=>?_⟩
 refine⟨w1,S1,τ,bH,sl.mono cU,(aV.az q1).mono λy H2 ⟨w2,S2,t2,eB,dg,r2,_,q2⟩=>?_⟩
 split at q2
 ·rename_i _ i _
  refine⟨i,aN r2,w2,S2,τ,dg,(sl.mono cU).mono eB,(aV.az q2).mono λz H3 ⟨w3,S3,t3,iK,mz,r3,_,q3⟩=>?_⟩
  split at q3
  ·rename_i n c ys _ _ _ _ _
   split at q3
   ·rename_i l el
    split at q3
    ·rename_i hc
     have r1':=(RT.mono (eB.trans iK) _ _ r1).cK
     have r':=RT.mono ((cU.trans eB).trans iK) _ _ r
     unfold RT at r';obtain⟨b,zs,rfl,hF,rz⟩:=r';obtain⟨xs,h1,h2⟩:=mz.cell _ _ (cF el)
     have sA:w3.ρ n≠b:=λz=>by
      rw[<-z,mz.F] at hF;unfold Fz at hF;rw[if_pos (.inl ⟨n,⟨_,cF el,rfl⟩,rfl⟩)] at hF;cases hF
     refine⟨c,aN r3,_,b,xs,zs,i,c,r1'.2,rfl,h1,mz.sub _ _ hF,sA,rfl,rfl,hc.1,hc.2.1,by rw[h2.len];exact hc.2.2.1,by rw[h2.len,rz.len];exact hc.2.2.2,?_⟩
     exact q3 w3 _ _ (.refl _) (putL mz el (((h2.take _).rJ rz).rJ (h2.drop _))) (((sl.mono cU).mono eB).mono iK)
    ·exact q3.elim
   ·exact q3.elim
  ·exact q3.elim
 ·exact q2.elim
end
noncomputable def isP:Tr->Bool|.tp [.int _,.str _]=>true|_=>false
noncomputable def eqP (i:Int)(c:Str):Tr->Bool|.tp [.int j,.str z]=>decide (j=i/\z=c)|_=>false
noncomputable def rV:Tr->Tr->Cs->R Tr:=λt1 t2 S=>match t1 with
 |.tp [.int i,.str c]=>(match xA S t2 with|some l=>if l.all isP=true then .ok (.bl (!l.any (eqP i c))) S else .aA|none=>.aA)
 |_=>.aA
section
variable {G:Gx}{k:Nat}{w:Wd}{X:Cx}{ah:List (Addr×Obj)}{s:Shared}{σ:St}{H:Hp}
theorem acs (I:aJ X ah σ H s){A:Around}(hA:A.units+2<cLine)(hF:∀b o,w.F b=some o->H b=some o){a b:Addr}{i j:Int}{c z:Str}(ha:w.F a=some (.fP [V.int j,V.str z]))(hb:w.F b=some (.fP [V.int i,V.str c])):SeqAt.EqAt A s (.ref a) (.ref b) (decide (j=i/\z=c)):=by
 by_cases V2:a=b
 ·subst V2
  rw[ha] at hb;cases hb;rw[decide_eq_true ⟨rfl,rfl⟩];exact zdl _
 ·refine zdA V2 ?_
  obtain⟨aI,r1,p1,_⟩:=I.fj (nJ.of (hF _ _ ha))
  obtain⟨fY,r2,p2,_⟩:=I.fj (nJ.of (hF _ _ hb))
  cases r1 with
  | @cons _ v0 _ vr rv rr =>
  cases rr with
  | @cons _ v1 _ vr rv1 rn1 =>
  cases rn1;cases r2 with
  | @cons _ u0 _ ur ru rr2 =>
  cases rr2 with
  | @cons _ u1 _ ur ru1 rn2 =>
  cases rn2;have h:=SeqAt.RcAt.tuples (A:=A) (e:=λk=>if k=0 then zN (V.int j) (V.int i) else zN (V.str z) (V.str c)) p1 p2 (by omega) λk h1 h2=>by
   have:k=0\/k=1:=by simp at h2;omega
   rcases this with rfl|rfl
   ·exact zP rv ru rfl rfl
   ·exact zP rv1 ru1 rfl rfl
  have e:((List.range (min [v0,v1].toArray.size [u0,u1].toArray.size)).all (λk=>if k=0 then zN (V.int j) (V.int i) else zN (V.str z) (V.str c)) && [v0,v1].toArray.size == [u0,u1].toArray.size)=decide (j=i/\z=c):=by
   rw[zaU];simp[zN,List.range_succ]
  rw[e] at h;exact h
theorem Hu {t:Tr}{x:V}(h:isP t=true)(r:RT w t x):∃a j z,t = .tp [.int j,.str z]/\x = .ref a/\w.F a=some (.fP [V.int j,V.str z]):=by
 unfold isP at h;split at h
 ·rename_i j z
  unfold RT at r;obtain⟨a,xs,rfl,hF,R⟩:=r;obtain⟨y,ys,rfl,h1,h2⟩:=R.aY;obtain⟨y2,ys2,rfl,h3,h4⟩:=h2.aY;rw[h4.bP] at hF;unfold RT at h1 h3;subst h1 h3;exact⟨a,j,z,rfl,rfl,hF⟩
 ·cases h
open Classical in
theorem acu:om G k (compareOp .NotIn) rV:=.mk<|λX o ah s σ H x y v u Q I rx ry zp=>by
 obtain⟨w,S,t1,t2,hr,r1,r2,q⟩:=zp;unfold rV at q;split at q
 ·rename_i i c
  split at q
  ·rename_i l el
   split at q
   ·rename_i Ex
    obtain⟨b,i',c',e0,rfl,hb⟩:=Hu (t:=.tp [.int i,.str c]) rfl r1
    cases e0;obtain⟨a,xs,e1,sq,R⟩:=jl hr r2 el;subst e1;rw[<-o.K] at sq;cases rx;cases ry;obtain⟨aI,r,pl,hz⟩:=I.list sq;have q:=q w H _ (.refl w) hr gr
    have key:∀{l:List Tr} {xs:List V} {aI:List Value},l.all isP=true->bJ w l xs->bA xs aI->(∀y∈aI,SeqAt.EqAt X.A.in1 s y (.ref b) (decide (∃a,y = .ref a/\w.F a=some (.fP [V.int i,V.str c]))))/\aI.any (λy=>decide (∃a,y = .ref a/\w.F a=some (.fP [V.int i,V.str c])))=l.any (eqP i c):=by
     intro l;induction l with
     |nil =>
      intro xs aI _ R V1;rw[R.bP] at V1;cases V1;exact⟨(λy hy=>by cases hy),rfl⟩
     |cons t l ih =>
      intro xs aI ha R V1;obtain⟨x0,xr,rfl,h1,h2⟩:=R.aY;have ha:=zbk.mp (show (isP t && l.all isP)=true from ha)
      cases V1 with
      | @cons _ v0 _ vr rv rr =>
       obtain⟨k1,k2⟩:=ih ha.2 h2 rr;obtain⟨a0,j,z,rfl,rfl,hF⟩:=Hu ha.1 h1;cases rv;have hq:=acs (w:=w) I (A:=X.A.in1) (by have:=o.hu;show X.A.units+1+2<_;omega) hr.sub hF hb
       have e2:decide (∃a,(Value.ref a0) = .ref a/\w.F a=some (.fP [V.int i,V.str c]))=decide (j=i/\z=c):=by
        rw[zaU,decide_eq_true_iff,decide_eq_true_iff];constructor
        ·rintro⟨a,ea,h⟩
         cases ea;rw[hF] at h;cases h;exact⟨rfl,rfl⟩
        ·rintro⟨rfl,rfl⟩
         exact⟨a0,rfl,hF⟩
       refine⟨λy hy=>?_,?_⟩
       ·rcases zap.mp hy with rfl|hy
        ·rw[e2];exact hq
        ·exact k1 y hy
       ·rw[zbP,zbP,k2,e2]
        rfl
    obtain⟨k1,k2⟩:=key Ex R r;refine SeqAt.notIn_listAt (λy=>decide (∃a,y = .ref a/\w.F a=some (.fP [V.int i,V.str c]))) pl.isList (λy hy=>k1 y (by simpa using hy)) ⟨.bl _,H,I,rfl,?_⟩
    rw[show ∀f:Value->Bool,aI.toArray.any f=aI.any f by intro f;simp,k2]
    exact q
   ·exact q.elim
  ·exact q.elim
 ·exact q.elim
end
noncomputable def ckT (S:Cs)(t:Tr):Bool:=match t with|.hd n=>(match S[n]? with|some (.i7 _)=>true|some (.sG _)=>true|_=>false)|_=>false
noncomputable def Fx (fo fe ff:Em):Em:=λτ S=>(fo τ S).az λt S1=>if ckT S1 t=true then (fe τ S1).az λj S2=>(ff τ S2).az λu S3=>(match sM S3 t j with|some o=>.ok (o.getD u) S3|none=>.aA) else .aA
theorem acv {S:Cs}{H:Hp}(hr:HR G w S H)(r:RT w t v)(h:ckT S t=true):∃n,t = .hd n/\v = .ref (w.ρ n)/\IsD H (w.ρ n):=by
 unfold ckT at h;split at h
 ·rename_i n
  have hx:=r.cK.2;split at h
  ·rename_i l en
   obtain⟨aK,h1,h2⟩:=hr.cell _ _ en;exact⟨n,rfl,hx,.inr ⟨aK,.inl h1⟩⟩
  ·rename_i l en
   obtain⟨ob,aK,h1,h2⟩:=hr.cell _ _ en;exact⟨n,rfl,hx,.inr ⟨aK,.inr ⟨ob,hr.sub _ _ h1⟩⟩⟩
  ·cases h
 ·cases h
theorem NV (ho:TV G k X o fo)(he:TV G k X e fe)(hf:TV G k X c ff)(m:M2 X o "get" eO e c fZ:=by exact⟨rfl,rfl,rfl,rfl⟩):TV G k X (.Call (.Attribute o "get" eO) [e,c] [] fZ) (Fx fo fe ff):=.mk<|λox=>(Bu ox.Ss (ho ox) (he ox) (hf ox) m).wk λσ H Q h=>by
 obtain⟨w,S,τ,hr,sl,q⟩:=h;refine⟨w,S,τ,hr,sl,(aV.az q).mono λx H1 iy=>?_⟩
 obtain⟨w1,S1,t,cU,bH,r1,_,q1⟩:=iy;split at q1
 ·rename_i hck
  obtain⟨n,rfl,e2,hd⟩:=acv bH r1 hck;refine⟨_,e2,hd,w1,S1,τ,bH,sl.mono cU,(aV.az q1).mono λy H2 jj=>?_⟩
  obtain⟨w2,S2,j,eB,dg,r2,_,q2⟩:=jj;refine⟨w2,S2,τ,dg,(sl.mono cU).mono eB,(aV.az q2).mono λz H3 f6=>?_⟩
  obtain⟨w3,S3,u,iK,mz,r3,_,q3⟩:=f6;split at q3
  ·rename_i ot et
   obtain⟨p,ov,ex,g,hv⟩:=AG mz (RT.mono (eB.trans iK) _ _ r1) (RT.mono iK _ _ r2) et
   rw[e2] at ex;cases ex;refine⟨ov,g,q3 w3 H3 _ (.refl _) mz ?_⟩
   cases ot with
   |none=>rw[show ov=none from hv];exact r3
   |some t=>obtain⟨v,ev,rv⟩:=hv;rw[ev];exact rv
  ·exact q3.elim
 ·exact q1.elim
section
variable {prog:Program}{w:World}{A:Around}{E:Value->Shared->Prop}{s:Shared}
end
end L2
namespace L2
open PySem
def bp:=jp @vV0<|jp @bV0<|jp @sV0<|jp @bN0<|jp @bV1<|jp @sV1<|jp @kS1<|jp @bN1<|jp @vV2<|jp @bV2<|jp @sV2<|jp @kS2<|jp @bN2<|jp @vV3<|jp @bV3<|jp @sV3<|jp @kS3<|jp @bN3<|jp @bV4<|jp @sV4<|jp @kS4<|jp @bN4<|jp @bV5<|jp @kS5<|jp @bN5<|jp @bV6<|jp @kS6<|jp @bN6<|jp @bV7<|jp @kS7<|jp @bN7<|jp @kS8<|jp @bN8<|jp @bN9<|jp @anm<|jp @ano<|jp @bC<|jp @sC<|jp @aiC<|jp @aiD<|jp @aiE<|jp @aiF<|jp @aiG<|jp @aiH<|jp @aiI<|jp @aiJ<|jp @aiK<|jp @aiL<|jp @aiM<|jp @aiN<|jp @acp<|jp @aiO<|jp @aiP<|jp @aiQ<|jp @aiR<|jp @aiS<|jp @aiT<|jp @kF1<|jp @kF2<|jp @kF3<|jp @kF4<|jp @kF5<|jp @kM1<|jp @kM2<|jp @kM3<|jp @kK3<|jp @kK5<|jp @kL0<|jp @kC0<|jp @kT1<|jp @kL1<|jp @kT2<|jp @kL2<|jp @kT3<|jp @kL3<|jp @kT4<|jp @kL4<|jp @kT5<|jp @kL5<|jp @kC5<|jp @kT6<|jp @kT7<|jp @kL8<|jp @anp<|jp @iT0<|jp @iT1<|jp @iT2<|jp @iT3<|jp @iT4<|jp @iT5<|jp @iT6<|jp @iT7<|jp @iL0<|jp @iL1<|jp @gIb<|jp @anq<|jp @anr<|jp @aV0<|jp @ans<|jp @ant<|jp @aV1<|jp @anu<|jp @anv<|jp @aV2<|jp @anw<|jp @anx<|jp @aV3<|jp @anz<|jp @anA<|jp @aV4<|jp @anB<|jp @aV5<|jp @anC<|jp @aV6<|jp @anD<|jp @aV7<|jp @anE<|jp @aV8<|jp @aiU<|jp @anF<|jp @aiV<|jp @anG<|jp @sS5<|jp @kBC<|jp @kCN<|jp @aC<|jp @ln7<|@anH
def bx:=jp @B8<|jp @abq<|jp @abZ<|jp @T5<|jp @JK<|jp @Nz<|jp @ab0<|jp @T6<|jp @NC<|jp @T7<|jp @aio<|jp @T8<|jp @JO<|jp @T9<|jp @T_<|jp @Ua<|jp @Ub<|jp @ab1<|jp @ab2<|jp @Uc<|jp @R.d7<|jp @R.z9<|jp @R.gG<|jp @R.BO<|jp @abr<|jp @abt<|jp @Tu<|jp @abu<|jp @uA<|jp @Tv<|jp @anf<|jp @aip<|jp @ab3<|jp @ab4<|jp @ND<|jp @NF<|jp @NG<|jp @ab5<|jp @ab6<|jp @aiq<|jp @ab7<|jp @NH<|jp @ab8<|jp @ab9<|jp @Ud<|jp @acd<|jp @ace<|jp @zat.{0,0}<|jp @zaJ.{0,0}<|jp @zar.{0}<|jp @zba.{0}<|jp @zbX.{0}<|jp @zdm.{0}<|jp @zaX.{0}<|jp @zaF.{0}<|jp @zcz.{0}<|jp @zbJ.{0}<|jp @zcr.{0}<|jp @zaz.{0}<|jp @zeJ.{0}<|jp @Option.isNone_some.{0}<|jp @zdx.{0}<|jp @abv<|jp @zbq<|jp @ahT<|jp @amP<|jp @if_true.{0}<|jp @if_false.{0}<|jp @decide_true<|jp @decide_false<|jp @Bool.not_true<|jp @Bool.not_false<|jp @true_and<|jp @and_true<|jp @false_and<|jp @and_false<|jp @or_true<|jp @true_or<|jp @or_false<|jp @not_true_eq_false<|jp @not_false_eq_true<|jp @at0<|jp @at2<|jp @at3<|jp @at4<|jp @at5<|jp @bO<|jp @iP<|jp @and_self<|jp @or_self<|jp @ahu<|jp @Tp<|jp @Ng<|jp @Tq<|jp @Tt<|jp @i_<|jp @Au<|jp @Ue<|jp @ig<|jp @Ug<|jp @NI<|jp @uB<|jp @yu<|jp @ang<|jp @JI<|jp @Nh<|jp @Wf<|jp @ahS<|jp @acf<|jp @zak.{0}<|jp @zad.{0,0}<|jp @Int.cast_ofNat_Int<|jp @List.isEmpty_cons.{0}<|jp @zeP<|jp @Int.zero_add<|jp @Aw<|jp @B9<|jp @B_<|jp @xE<|jp @Ax<|jp @Ca<|jp @xF<|jp @Ay<|jp @sJ<|jp @uD<|jp @uE<|jp @xG<|jp @ahZ<|jp @ah0<|jp @vIf<|jp @ah1<|jp @amW<|jp @ah2<|jp @ah3<|jp @amX<|jp @ah4<|jp @abJ<|jp @amZ<|jp @ah6<|jp @ah7<|jp @Nq<|jp @TL<|jp @ah8<|jp @am0<|jp @vB<|jp @abK<|jp @am1<|jp @vUn<|jp @vC<|jp @ah9<|jp @Nr<|jp @TM<|jp @aia<|jp @am2<|jp @am3<|jp @am4<|jp @aib<|jp @vFn<|jp @TN<|jp @aic<|jp @Nu<|jp @aid<|jp @am5<|jp @abM<|jp @abN<|jp @am6<|jp @abO<|jp @am7<|jp @abQ<|jp @abR<|jp @am8<|jp @aif<|jp @aih<|jp @vOr<|jp @TQ<|jp @aii<|jp @TR<|jp @aij<|jp @abS<|jp @ana<|jp @abT<|jp @anb<|jp @abU<|jp @anc<|jp @vIt<|jp @TU<|jp @abV<|jp @ane<|jp @Fj<|jp @JN<|jp @TX<|jp @TY<|jp @TZ<|jp @T4<|jp @abX<|jp @Ny<|jp @abY<|jp @AF<|jp @NJ<|jp @gK.eq_1<|jp @JF.eq_1<|jp @JF.eq_2<|jp @pU.eq_1<|jp @pU.eq_2<|jp @JG.eq_1<|jp @JG.eq_2<|jp @pT.eq_1<|jp @pT.eq_2<|jp @isN.eq_1<|jp @isN.eq_2<|jp @Wb.eq_1<|jp @Wb.eq_2<|jp @gJ.eq_1<|jp @gJ.eq_2<|jp @gJ.eq_3<|jp @BW.eq_1<|jp @BW.eq_2<|jp @BW.eq_3<|jp @BW.eq_4<|jp @BW.eq_5<|jp @BW.eq_6<|jp @xA.eq_1<|jp @xA.eq_2<|jp @xA.eq_3<|jp @xA.eq_4<|jp @MS.eq_1<|jp @MS.eq_2<|jp @MS.eq_3<|jp @JE.eq_1<|jp @JE.eq_2<|jp @E6.eq_1<|jp @E6.eq_2<|jp @E6.eq_3<|jp @cu.eq_1<|jp @oG.eq_1<|jp @iV.eq_1<|jp @DY.eq_1<|jp @ckD.eq_1<|jp @Lb.eq_1<|jp @Lb.eq_2<|jp @Lb.eq_3<|jp @Lb.eq_4<|jp @Lb.eq_5<|jp @Lb.eq_6<|jp @Lb.eq_7<|jp @Lb.eq_8<|jp @iO.eq_1<|jp @AD.eq_1<|jp @AD.eq_2<|jp @Cb.eq_1<|jp @gT2.eq_1<|@gT2.eq_2
end L2
namespace My
open PySem L2
theorem rW {α β:Type}{f:α -> β}{a:α}{l:List α}:List.map f (a::l)=f a::List.map f l:=by first|exact zat|exact zat _|simp
theorem Hv {α:Type}{l:List α}:[]++l=l:=by first|exact zdm|exact zdm _|simp
noncomputable def fQ (i:Nat):Stmt:=PySem.Challenge.pw_inningsbook_k40_batters.main.body.getD i (.Pass ⟨0,0,0,0⟩)
noncomputable abbrev Wr:Stmt:=fQ 47
noncomputable abbrev Ws:Stmt:=fQ 48
noncomputable abbrev Wt:Stmt:=fQ 49
noncomputable abbrev NW:Stmt:=fQ 41
noncomputable abbrev NX:Stmt:=a_ (fQ 44) 0
noncomputable abbrev Hw:Stmt:=fQ 50
noncomputable abbrev Wu:Stmt:=a_ (fQ 44) 1
noncomputable abbrev Wv:Stmt:=a_ (fQ 44) 2
noncomputable abbrev NY:Stmt:=a_ (fQ 44) 3
noncomputable abbrev Ww:Stmt:=a_ (fQ 44) 4
noncomputable abbrev Wx:Stmt:=a_ (fQ 44) 5
noncomputable abbrev Wz:Stmt:=a_ (fQ 44) 6
noncomputable abbrev WA:Stmt:=a_ (fQ 44) 8
noncomputable abbrev WB:Stmt:=a_ (fQ 44) 9
noncomputable abbrev WC:Stmt:=a_ (fQ 32) 1
noncomputable abbrev WD:Stmt:=fQ 37
noncomputable abbrev WE:Stmt:=a_ (fQ 44) 10
noncomputable abbrev WG:Stmt:=a_ (fQ 44) 7
noncomputable abbrev WH:Stmt:=a_ (fQ 44) 11
noncomputable abbrev aiX:Stmt:=a_ (fQ 32) 2
noncomputable abbrev WI:Stmt:=fQ 19
noncomputable abbrev WJ:Stmt:=fQ 20
noncomputable abbrev WK:Stmt:=fQ 21
noncomputable abbrev WL:Stmt:=fQ 34
noncomputable abbrev WM:Stmt:=fQ 35
noncomputable abbrev WN:Stmt:=fQ 36
noncomputable abbrev WO:Stmt:=fQ 38
noncomputable abbrev WQ:Stmt:=a_ (fQ 44) 12
noncomputable abbrev aiY:Stmt:=a_ (fQ 32) 0
noncomputable abbrev WR:Stmt:=a_ (fQ 44) 13
noncomputable abbrev WS:Stmt:=fQ 22
noncomputable abbrev WT:Stmt:=fQ 23
noncomputable abbrev aiZ:Stmt:=a_ (fQ 32) 8
noncomputable abbrev ai0:Stmt:=a_ (fQ 32) 4
noncomputable abbrev ai1:Stmt:=a_ (fQ 32) 5
noncomputable abbrev ai2:Stmt:=a_ (fQ 32) 9
noncomputable abbrev ai3:Stmt:=a_ (fQ 32) 10
noncomputable abbrev WU:Stmt:=a_ (fQ 32) 11
noncomputable abbrev WV:Stmt:=a_ (fQ 44) 14
noncomputable abbrev ai4:Stmt:=a_ (fQ 32) 6
noncomputable abbrev ai5:Stmt:=a_ (fQ 32) 7
noncomputable abbrev NZ:Stmt:=fQ 45
noncomputable abbrev N1:Stmt:=fQ 33
noncomputable abbrev WW:Stmt:=a_ (fQ 32) 12
noncomputable abbrev N2:Stmt:=a_ (fQ 44) 15
noncomputable abbrev WX:Stmt:=a_ (fQ 44) 16
noncomputable abbrev WY:Stmt:=a_ (fQ 44) 17
noncomputable abbrev acw:Stmt:=a_ (fQ 32) 3
noncomputable abbrev WZ:Stmt:=a_ (fQ 44) 18
noncomputable abbrev W0:Stmt:=a_ (fQ 44) 19
noncomputable abbrev W2:Stmt:=a_ (fQ 44) 20
noncomputable abbrev N3:Stmt:=a_ (fQ 44) 23
noncomputable abbrev W3:Stmt:=a_ (fQ 44) 22
noncomputable abbrev W4:Stmt:=fQ 52
noncomputable abbrev W5:Stmt:=fQ 51
noncomputable abbrev W6:Stmt:=fQ 53
noncomputable abbrev W7:Stmt:=fQ 54
noncomputable abbrev W8:Stmt:=fQ 55
noncomputable abbrev W9:Stmt:=a_ (fQ 44) 25
noncomputable abbrev W_:Stmt:=fQ 58
noncomputable abbrev Xa:Stmt:=fQ 56
noncomputable abbrev N4:Stmt:=fQ 59
noncomputable abbrev Xb:Stmt:=fQ 28
noncomputable abbrev Xc:Stmt:=fQ 29
noncomputable abbrev N5:Stmt:=fQ 25
noncomputable abbrev N6:Stmt:=fQ 26
noncomputable abbrev N7:Stmt:=fQ 30
noncomputable abbrev Xd:Stmt:=fQ 57
noncomputable abbrev Xe:Stmt:=fQ 60
noncomputable abbrev dQ:Stmt:=a_ (fQ 3) 0
structure AdF where
 Ci:Addr
 Cj:Addr
 Ck:Addr
 Cm:Addr
 uL:Addr
 Cn:Addr
 yF:Addr
 yG:Addr
 yH:Addr
 yI:Addr
 yJ:Addr
 yK:Addr
 yL:Addr
 yM:Addr
 yN:Addr
 Co:Addr
 yO:Addr
 yP:Addr
 yQ:Addr
 JS:Addr
 Cp:Addr
 Cq:Addr
 Cr:Addr
 Ct:Addr
 Cu:Addr
 Cv:Addr
 Cw:Addr
 yR:Addr
 Fy:Addr
 yS:Addr
 Cy:Addr
 Cz:Addr
 JT:Addr
 JU:Addr
 JV:Addr
 JW:Addr
 JX:Addr
 yT:Addr
 yU:Addr
 JY:Addr
 JZ:Addr
 CA:Addr
 CB:Addr
 yV:Addr
 yW:Addr
 yX:Addr
 yY:Addr
 J0:Addr
 yZ:Addr
 y9:Addr
 y_:Addr
 zc:Addr
 zd:Addr
 CD:Addr
 CF:Addr
 CG:Addr
 CH:Addr
 CI:Addr
 ze:Addr
 CJ:Addr
 CK:Addr
 CM:Addr
 CN:Addr
 CO:Addr
 CQ:Addr
 CS:Addr
 CT:Addr
 CU:Addr
 CV:Addr
 uM:FuncData
 uN:FuncData
 uO:FuncData
 uP:FuncData
 uQ:FuncData
 uR:FuncData
 uS:FuncData
 uU:FuncData
 uV:FuncData
 uW:FuncData
 uX:FuncData
 uY:FuncData
 uZ:FuncData
 u5:FuncData
 u6:FuncData
 u9:FuncData
 u_:FuncData
 vc:FuncData
 vd:FuncData
 CW:FuncData
 ve:FuncData
 vf:FuncData
 vg:FuncData
 vh:FuncData
 vj:FuncData
 vm:FuncData
 vn:FuncData
 vo:FuncData
 CY:FuncData
 vp:FuncData
 vq:FuncData
 vz:FuncData
 CZ:FuncData
 C0:FuncData
 C1:FuncData
 C2:FuncData
 C3:FuncData
 vA:FuncData
 vD:FuncData
 C4:FuncData
 C5:FuncData
 vE:FuncData
 vF:FuncData
 vG:FuncData
 vH:FuncData
 vI:FuncData
 vJ:FuncData
 C6:FuncData
 vK:FuncData
 vL:FuncData
 vM:FuncData
 vN:FuncData
 vO:FuncData
 vP:FuncData
 vQ:FuncData
 vR:FuncData
 vS:FuncData
 vU:FuncData
 vV:FuncData
 vW:FuncData
 vX:FuncData
 vY:FuncData
 vZ:FuncData
 v_:FuncData
 wc:FuncData
 we:FuncData
 wg:FuncData
 wj:FuncData
 oY:FuncData
 aO:Addr
 br:Addr
 lF:Tok
 jO:Tok
 AL:Tok
 ja:Tok
 jb:Tok
 lG:Tok
 nP:Tok
 jc:Tok
 jP:Tok
 lH:Tok
 nQ:Tok
 Hx:Tok
 lI:Tok
 jd:Tok
 jQ:Tok
 nR:Tok
structure Ad extends AdF where
 aZ:Addr
 bK:Addr
 bg:Addr
 eZ:FuncData
 jg:Tok
noncomputable def aF (a:Ad):Str->Addr:=λx=>if x="Innings" then a.aO else if x="Match" then a.br else if x="NotLet" then a.bK else 0
noncomputable def er (a:Ad):List (Str×Addr×Addr):=[("NotLet",a.bK,a.bg)]
structure TxF (K:W.Frag) (mg:Str->Option Value) (a:AdF):Prop where
 ai6:mg "any"=none
 acy:mg "bool"=none
 acz:mg "dict"=none
 wm:mg "int"=none
 cQ:mg "isinstance"=none
 kH:mg "len"=none
 lJ:mg "list"=none
 AM:mg "range"=none
 Xf:mg "str"=none
 ai7:mg "sum"=none
 nU:mg "tuple"=none
 Xg:mg "zip"=none
 FA:mg "BAT_RUNS"=some (.int 1 a.lF)
 C7:mg "FOLLOW_AT"=some (.int 7 a.jO)
 N8:mg "FOUR"=some (.int 4 a.AL)
 AN:mg "INNINGS_AT"=some (.int 6 a.ja)
 AO:mg "IS_CROSSED"=some (.int 6 a.jb)
 FD:mg "IS_FACED"=some (.int 5 a.lG)
 J1:mg "IS_FAIR"=some (.int 4 a.nP)
 qb:mg "LONG_MATCH"=some (.int 4 a.jc)
 C8:mg "NOBALL_AT"=some (.int 4 a.jP)
 FE:mg "OVERS_AT"=some (.int 1 a.lH)
 J5:mg "OVER_AT"=some (.int 0 a.nQ)
 Xh:mg "SIX"=some (.int 6 a.Hx)
 FF:mg "SPELL_AT"=some (.int 2 a.lI)
 qc:mg "TEAM_COUNT"=some (.int 2 a.jd)
 C9:mg "TEAM_RUNS"=some (.int 0 a.jQ)
 J7:mg "WIDE_AT"=some (.int 3 a.nR)
 Xi:nN K mg "_law_drawn" Wr ["_law_script"] a.Ci a.uM
 rX:nN K mg "_law_pick" Ws ["_law_draw","_law_many"] a.Cj a.uN
 Xj:nN K mg "_law_rules" Wt ["_law_draw"] a.Ck a.uO
 N9:nN K mg "names_told" NW ["teams","word"] a.Cm a.uP
 Xk:lW K a.br "__init__" "Match.__init__" NX ["self","rules","teams"] a.uL a.uQ
 Xl:nN K mg "_law_teams" Hw ["_law_draw","_law_side"] a.Cn a.uR
 jR:lW K a.br "going" "Match.going" Wu ["self"] a.yF a.uS
 C_:lW K a.br "most_innings" "Match.most_innings" Wv ["self"] a.yG a.uU
 N_:lW K a.br "total_of" "Match.total_of" NY ["self","side"] a.yH a.uV
 Dc:lW K a.br "lead_of" "Match.lead_of" Ww ["self","side"] a.yI a.uW
 Hy:lW K a.br "is_done" "Match.is_done" Wx ["self"] a.yJ a.uX
 Hz:lW K a.br "next_side" "Match.next_side" Wz ["self"] a.yK a.uY
 HA:lW K a.br "side_to_start" "Match.side_to_start" WA ["self","team"] a.yL a.uZ
 Oa:lW K a.br "start_refusal" "Match.start_refusal" WB ["self","entry"] a.yM a.u5
 rY:lW K a.aO "stands" "Innings.stands" WC ["self","name"] a.yN a.u6
 Xm:nN K mg "swap_refusal_within" WD ["innings","old"] a.Co a.u9
 Ob:lW K a.br "swap_refusal" "Match.swap_refusal" WE ["self","old","new"] a.yO a.u_
 Oc:lW K a.br "may_follow" "Match.may_follow" WG ["self"] a.yP a.vc
 Od:lW K a.br "follow_refusal" "Match.follow_refusal" WH ["self"] a.yQ a.vd
 Oe:lW K a.aO "has_gap" "Innings.has_gap" aiX ["self"] a.JS a.CW
 Xn:nN K mg "rope_goes" WI ["kind","runs"] a.Cp a.ve
 Xo:nN K mg "way_goes" WJ ["kind","runs","rope","way"] a.Cq a.vf
 Xp:nN K mg "ball_fault" WK ["entry"] a.Cr a.vg
 Xq:nN K mg "ball_refusal" WL ["innings","entry"] a.Ct a.vh
 Xr:nN K mg "in_refusal" WM ["innings","batting","name"] a.Cu a.vj
 Xs:nN K mg "bowl_refusal" WN ["innings","fielding","spell","name"] a.Cv a.vm
 Xu:nN K mg "refusal_within" WO ["innings","rules","batting","fielding","entry"] a.Cw a.vn
 Of:lW K a.br "refusal" "Match.refusal" WQ ["self","entry"] a.yR a.vo
 ai8:lW K a.aO "__init__" "Innings.__init__" aiY ["self","side","facing","other","bowler"] a.Fy a.CY
 Og:lW K a.br "begin" "Match.begin" WR ["self","entry"] a.yS a.vp
 Xv:nN K mg "runs_by" WS ["rules","kind","runs"] a.Cy a.vq
 Oh:nN K mg "ball_sums" WT ["rules","entry"] a.Cz a.vz
 acA:lW K a.aO "out_by" "Innings.out_by" aiZ ["self","entry"] a.JT a.CZ
 Oi:lW K a.aO "change_ends" "Innings.change_ends" ai0 ["self"] a.JU a.C0
 Uo:lW K a.aO "leave" "Innings.leave" ai1 ["self","name"] a.JV a.C1
 acB:lW K a.aO "fall" "Innings.fall" ai2 ["self","name","end"] a.JW a.C2
 acC:lW K a.aO "count_fair" "Innings.count_fair" ai3 ["self","over"] a.JX a.C3
 Oj:lW K a.aO "play" "Innings.play" WU ["self","rules","entry"] a.yT a.vA
 Ol:lW K a.br "play_ball" "Match.play_ball" WV ["self","entry"] a.yU a.vD
 acD:lW K a.aO "come_in" "Innings.come_in" ai4 ["self","name"] a.JY a.C4
 acE:lW K a.aO "bowl_next" "Innings.bowl_next" ai5 ["self","name"] a.JZ a.C5
 Xw:nN K mg "swapped" NZ ["players","old","new"] a.CA a.vE
 Xx:nN K mg "renamed" N1 ["told","old","new"] a.CB a.vF
 Om:lW K a.aO "rename" "Innings.rename" WW ["self","old","new"] a.yV a.vG
 Oo:lW K a.br "swap_player" "Match.swap_player" N2 ["self","old","new"] a.yW a.vH
 Oq:lW K a.br "close" "Match.close" WX ["self"] a.yX a.vI
 Ot:lW K a.br "do" "Match.do" WY ["self","entry"] a.yY a.vJ
 acF:lW K a.aO "has_left" "Innings.has_left" acw ["self","players"] a.J0 a.C6
 Ou:lW K a.br "ending_due" "Match.ending_due" WZ ["self","going"] a.yZ a.vK
 Ov:lW K a.br "tell" "Match.tell" W0 ["self","entry"] a.y9 a.vL
 Ow:lW K a.br "state" "Match.state" W2 ["self"] a.y_ a.vM
 HB:lW K a.br "players" "Match.players" N3 ["self"] a.zc a.vN
 Ox:lW K a.br "turn" "Match.turn" W3 ["self"] a.zd a.vO
 Xy:nN K mg "_law_opening" W4 ["_law_draw","_law_match"] a.CD a.vP
 Xz:nN K mg "_law_ball" W5 ["_law_draw","_law_two"] a.CF a.vQ
 XA:nN K mg "_law_entry" W6 ["_law_draw","_law_match"] a.CG a.vR
 XC:nN K mg "_law_played" W7 ["_law_draw"] a.CH a.vS
 XD:nN K mg "_law_part" W8 ["_law_draw","_law_log"] a.CI a.vU
 Oz:lW K a.br "log" "Match.log" W9 ["self"] a.ze a.vV
 XE:nN K mg "_law_order" W_ ["_law_log"] a.CJ a.vW
 XF:nN K mg "_law_counts" Xa ["_law_rules_here","_law_entry_here"] a.CK a.vX
 XG:nN K mg "_law_due" N4 ["_law_rules_here","_law_log"] a.CM a.vY
 XH:nN K mg "reaches_rope" Xb ["entry","runs"] a.CN a.vZ
 XI:nN K mg "bat_part" Xc ["rules","entry"] a.CO a.v_
 XJ:nN K mg "added" N5 ["one","two"] a.CQ a.wc
 XM:nN K mg "totals" N6 ["parts"] a.CS a.we
 XN:nN K mg "batters" N7 ["rules","log"] a.CT a.wg
 rZ:nN K mg "_law_same" Xd ["_law_found","_law_due_here"] a.CU a.wj
 OA:nN K mg "law" Xe ["_law_script"] a.CV a.oY
 cP:We K mg "Innings" a.aO a.Fy
 ai9:cD K a.aO "side"
 aja:cD K a.aO "facing"
 ajb:cD K a.aO "other"
 ajc:cD K a.aO "bowler"
 ajd:cD K a.aO "ahead"
 aje:cD K a.aO "total"
 ajf:cD K a.aO "wickets"
 ajg:cD K a.aO "overs"
 ajh:cD K a.aO "balls"
 aji:cD K a.aO "ending"
 acG:cD K a.aO "outs"
 acH:cD K a.aO "spells"
 iu:We K mg "Match" a.br a.uL
 ajj:cD K a.br "rules"
 ajk:cD K a.br "sides"
 ajl:cD K a.br "known"
 ajm:cD K a.br "played"
 ajn:cD K a.br "followed"
 ajo:cD K a.br "closed"
 ajp:cD K a.br "balls_told"
structure Txt (K:W.Frag) (mg:Str->Option Value) (a:Ad):Prop extends TxF K mg a.toAdF where
 Er:abH K mg a.aZ (er a)
 gz:EC K mg a.aZ "NotLet" a.bK a.bg dQ a.eZ ["self","words","rule","number"]
 zf:fq K a.eZ ["self","words","rule","number"] [.int 0 a.jg]
 nv:W.findIn K (.ref a.bK) "rule"=some none
 kI:W.findIn K (.ref a.bK) "number"=some none
 J8:a.bK≠a.aZ
theorem gM {K:W.Frag}{cl:Str->Addr}{E:XK}{x f:Str}{C:Addr}(e:cl x=C)(h:wQ K C)(n:cD K C f):fD ⟨K,cl,E⟩ [x] f:=λc hc=>by
 cases zaS.mp hc
 subst e;exact⟨h,n⟩
theorem fR {N P:List Str}{sc:Scope}(h:sc.kind = .function/\sc.isCoroutine=false/\sc.isGenerator=false/\N.take P.length=P:=by exact⟨rfl,rfl,rfl,rfl⟩)(d:N.Nodup/\(∀x∈P,sc.names.lookup x=some .local\/sc.names.lookup x=some .cell)/\∀y∈sc.names,y.2 ≠ .free:=by decide +kernel):aq N P sc:=⟨h.1,h.2.1,h.2.2.1,d.1,h.2.2.2,d.2.1,d.2.2⟩
section
variable {P:Program}{w:World}{K:W.Frag}{mg:Str->Option Value}{base:Heap}{a:Ad}{E:XK}
theorem aP:aF a "Innings"=a.aO:=by unfold aF;rw[if_pos rfl]
theorem aU (T:Txt K mg a):wQ K (aF a "Innings"):=by rw[aP];exact T.cP.c
theorem FG (T:Txt K mg a):Mk K (aF a "Innings") a.Fy:=by rw[aP];exact T.cP.k
theorem Dd (T:Txt K mg a):mg "Innings"=some (.ref (aF a "Innings")):=by rw[aP];exact T.cP.m
theorem ny (T:Txt K mg a):fD ⟨K,aF a,E⟩ ["Innings"] "side" := gM aP T.cP.c T.ai9
theorem iQ (T:Txt K mg a):fD ⟨K,aF a,E⟩ ["Innings"] "facing" := gM aP T.cP.c T.aja
theorem nA (T:Txt K mg a):fD ⟨K,aF a,E⟩ ["Innings"] "other" := gM aP T.cP.c T.ajb
theorem lK (T:Txt K mg a):fD ⟨K,aF a,E⟩ ["Innings"] "bowler" := gM aP T.cP.c T.ajc
theorem wo (T:Txt K mg a):fD ⟨K,aF a,E⟩ ["Innings"] "ahead" := gM aP T.cP.c T.ajd
theorem AQ (T:Txt K mg a):fD ⟨K,aF a,E⟩ ["Innings"] "total" := gM aP T.cP.c T.aje
theorem FH (T:Txt K mg a):fD ⟨K,aF a,E⟩ ["Innings"] "wickets" := gM aP T.cP.c T.ajf
theorem wu (T:Txt K mg a):fD ⟨K,aF a,E⟩ ["Innings"] "overs" := gM aP T.cP.c T.ajg
theorem qY (T:Txt K mg a):fD ⟨K,aF a,E⟩ ["Innings"] "balls" := gM aP T.cP.c T.ajh
theorem wz (T:Txt K mg a):fD ⟨K,aF a,E⟩ ["Innings"] "ending" := gM aP T.cP.c T.aji
theorem nV (T:Txt K mg a):fD ⟨K,aF a,E⟩ ["Innings"] "outs" := gM aP T.cP.c T.acG
theorem qd (T:Txt K mg a):fD ⟨K,aF a,E⟩ ["Innings"] "spells" := gM aP T.cP.c T.acH
theorem aX:aF a "Match"=a.br:=by unfold aF;rw[if_neg (by decide)];rw[if_pos rfl]
theorem aB (T:Txt K mg a):wQ K (aF a "Match"):=by rw[aX];exact T.iu.c
theorem OB (T:Txt K mg a):Mk K (aF a "Match") a.uL:=by rw[aX];exact T.iu.k
theorem J9 (T:Txt K mg a):mg "Match"=some (.ref (aF a "Match")):=by rw[aX];exact T.iu.m
theorem qZ (T:Txt K mg a):fD ⟨K,aF a,E⟩ ["Match"] "rules" := gM aX T.iu.c T.ajj
theorem jq (T:Txt K mg a):fD ⟨K,aF a,E⟩ ["Match"] "sides" := gM aX T.iu.c T.ajk
theorem FI (T:Txt K mg a):fD ⟨K,aF a,E⟩ ["Match"] "known" := gM aX T.iu.c T.ajl
theorem jY (T:Txt K mg a):fD ⟨K,aF a,E⟩ ["Match"] "played" := gM aX T.iu.c T.ajm
theorem AR (T:Txt K mg a):fD ⟨K,aF a,E⟩ ["Match"] "followed" := gM aX T.iu.c T.ajn
theorem FJ (T:Txt K mg a):fD ⟨K,aF a,E⟩ ["Match"] "closed" := gM aX T.iu.c T.ajo
theorem FL (T:Txt K mg a):fD ⟨K,aF a,E⟩ ["Match"] "balls_told" := gM aX T.iu.c T.ajp
theorem nW:aF a "NotLet"=a.bK:=by unfold aF;rw[if_neg (by decide)];rw[if_neg (by decide)];rw[if_pos rfl]
theorem zg (T:Txt K mg a):sQ K (aF a "NotLet") a.bg (.ref a.aZ::sP):=by rw[nW];exact T.gz.M
theorem FN (T:Txt K mg a):mg "NotLet"=some (.ref (aF a "NotLet")):=by rw[nW];exact T.gz.m
theorem oZ:aq ["self","words","rule","number"] ["self","words","rule","number"] (ak dQ):=fR
theorem o4 (T:Txt K mg a):aQ P w K mg base eF 1 a.bg a.eZ ["self","words","rule","number"] (Wg (aF a "NotLet") 3 (gE2 "rule" "number")):=by
 rw[nW];refine T.gz.ok oZ (λvs H Q E h=>?_) (λq fF A outer s H vs Q E hr h=>?_)
 ·obtain⟨b,xs,rfl,hl,_⟩:=h
  simp[hl]
 ·obtain⟨b,xs,rfl,hl,ha,k⟩:=h
  match xs,hl,k with
  |[x,y,z],_,k =>
   refine⟨_,tK (Gz (Mj T.Er.EB rfl T.Er.m (pA (pv 0) (pA (pv 1) Es)))) (tK (R8 (pv 0) (pv 2)) (Gy (R9 (pv 0) (pv 3)))),?_⟩
   refine⟨_,rfl,_,rfl,b,_,_,_,none,x,rfl,ha,T.gz.M,?_⟩
   refine⟨_,rfl,_,rfl,b,_,_,_,rfl,ha,T.gz.M,T.nv,λd nd=>?_⟩
   have nda:d≠b:=(fK ha nd).symm
   refine⟨_,rfl,_,rfl,b,_,_,_,d,[(("rule" : Str),y)],rfl,au,by rw[av nda,au],(show 1<1000 by decide),T.gz.M,T.kI,?_⟩
   have e1:gE "number" z [(("rule" : Str),y)]=[(("rule" : Str),y),("number",z)]:=by
    show (if ("rule" : Str)="number" then _ else _)=_
    rw[if_neg (by decide +kernel)]
    rfl
   rw[e1];refine k d _ nd (by rw[av nda.symm,au]) au λb o eb nb=>?_
   have nbd:b≠d:=fK eb nd
   rw[av nbd,av nb,av nbd];exact eb
theorem OC (T:Txt K mg a):mg "NotLet"=some (.ref a.bK):=(T.Er.all _ (zaR (i:=0) (l:=er a) rfl)).1
theorem J_ (T:Txt K mg a):sV ⟨K,aF a,E⟩ a.bK ["NotLet"]:=by
 intro c hc;simp only[zap,zaC,or_false] at hc;rcases hc with rfl
 ·exact⟨_,_,zg T,by show (Value.ref (aF a "NotLet")::_).contains _=true;rw[nW];exact Np⟩
theorem gh (T:Txt K mg a):dO K (aF a "Match") "going" a.yF:=by rw[aX];exact T.jR.M
theorem AS (T:Txt K mg a):dO K (aF a "Match") "most_innings" a.yG:=by rw[aX];exact T.C_.M
theorem Up (T:Txt K mg a):dO K (aF a "Match") "total_of" a.yH:=by rw[aX];exact T.N_.M
theorem AU (T:Txt K mg a):dO K (aF a "Match") "lead_of" a.yI:=by rw[aX];exact T.Dc.M
theorem HC (T:Txt K mg a):dO K (aF a "Match") "is_done" a.yJ:=by rw[aX];exact T.Hy.M
theorem HD (T:Txt K mg a):dO K (aF a "Match") "next_side" a.yK:=by rw[aX];exact T.Hz.M
theorem HE (T:Txt K mg a):dO K (aF a "Match") "side_to_start" a.yL:=by rw[aX];exact T.HA.M
theorem Uq (T:Txt K mg a):dO K (aF a "Match") "start_refusal" a.yM:=by rw[aX];exact T.Oa.M
theorem nX (T:Txt K mg a):dO K (aF a "Innings") "stands" a.yN:=by rw[aP];exact T.rY.M
theorem Ur (T:Txt K mg a):dO K (aF a "Match") "swap_refusal" a.yO:=by rw[aX];exact T.Ob.M
theorem Us (T:Txt K mg a):dO K (aF a "Match") "may_follow" a.yP:=by rw[aX];exact T.Oc.M
theorem Ut (T:Txt K mg a):dO K (aF a "Match") "follow_refusal" a.yQ:=by rw[aX];exact T.Od.M
theorem FO (T:Txt K mg a):dO K (aF a "Innings") "has_gap" a.JS:=by rw[aP];exact T.Oe.M
theorem Uu (T:Txt K mg a):dO K (aF a "Match") "refusal" a.yR:=by rw[aX];exact T.Of.M
theorem Uv (T:Txt K mg a):dO K (aF a "Match") "begin" a.yS:=by rw[aX];exact T.Og.M
theorem acI (T:Txt K mg a):dO K (aF a "Innings") "out_by" a.JT:=by rw[aP];exact T.acA.M
theorem FP (T:Txt K mg a):dO K (aF a "Innings") "change_ends" a.JU:=by rw[aP];exact T.Oi.M
theorem OD (T:Txt K mg a):dO K (aF a "Innings") "leave" a.JV:=by rw[aP];exact T.Uo.M
theorem acJ (T:Txt K mg a):dO K (aF a "Innings") "fall" a.JW:=by rw[aP];exact T.acB.M
theorem acK (T:Txt K mg a):dO K (aF a "Innings") "count_fair" a.JX:=by rw[aP];exact T.acC.M
theorem Uw (T:Txt K mg a):dO K (aF a "Innings") "play" a.yT:=by rw[aP];exact T.Oj.M
theorem Ux (T:Txt K mg a):dO K (aF a "Match") "play_ball" a.yU:=by rw[aX];exact T.Ol.M
theorem acL (T:Txt K mg a):dO K (aF a "Innings") "come_in" a.JY:=by rw[aP];exact T.acD.M
theorem acM (T:Txt K mg a):dO K (aF a "Innings") "bowl_next" a.JZ:=by rw[aP];exact T.acE.M
theorem Uy (T:Txt K mg a):dO K (aF a "Innings") "rename" a.yV:=by rw[aP];exact T.Om.M
theorem Uz (T:Txt K mg a):dO K (aF a "Match") "swap_player" a.yW:=by rw[aX];exact T.Oo.M
theorem UA (T:Txt K mg a):dO K (aF a "Match") "close" a.yX:=by rw[aX];exact T.Oq.M
theorem UB (T:Txt K mg a):dO K (aF a "Match") "do" a.yY:=by rw[aX];exact T.Ot.M
theorem acN (T:Txt K mg a):dO K (aF a "Innings") "has_left" a.J0:=by rw[aP];exact T.acF.M
theorem UC (T:Txt K mg a):dO K (aF a "Match") "ending_due" a.yZ:=by rw[aX];exact T.Ou.M
theorem UD (T:Txt K mg a):dO K (aF a "Match") "tell" a.y9:=by rw[aX];exact T.Ov.M
theorem UE (T:Txt K mg a):dO K (aF a "Match") "state" a.y_:=by rw[aX];exact T.Ow.M
theorem HF (T:Txt K mg a):dO K (aF a "Match") "players" a.zc:=by rw[aX];exact T.HB.M
theorem UG (T:Txt K mg a):dO K (aF a "Match") "turn" a.zd:=by rw[aX];exact T.Ox.M
theorem UH (T:Txt K mg a):dO K (aF a "Match") "log" a.ze:=by rw[aX];exact T.Oz.M
end
local macro_rules
 | `(tactic|simp?[$x,*])=>`(tactic|simp only[↓bp,bx,simprocAttr,$x,*])
local macro_rules
 | `(tactic|exists $es,*)=>`(tactic|repeat' first|exact dw _|exact aaY|exact aaZ|exact ug|refine lz ?_ ?_|refine jN ?_ ?_|refine jW ?_|exact nj|refine ahH ?_ ?_|refine lD ?_|refine rO ?_ ?_ ?_|refine anI _ (by assumption) ?_|refine gH (by first|exact SD|exact MY|exact MU|exact MV|exact ahC|exact ahD|exact SE|exact G0) ?_ ?_ (jT _)|refine aa3 ?_|refine MN (by first|exact ahF|exact ahB|exact ahA|exact ahz|exact ahE|exact apT) ?_ ?_|refine SW ?_|exact EY|exact ym|refine aa4 ?_|refine Sw ?_|refine ahI ?_ ?_ ?_|refine SJ ?_|exact SI|refine aa2 ?_ ?_ ?_|refine iJ (by first|exact SD|exact MY|exact MU|exact MV|exact ahC|exact ahD|exact SE|exact G0) ?_ ?_ (jT _)|refine aa1 ?_ ?_|refine Su ?_|refine V7 ?_ ?_|refine MR ?_|refine E3 ?_|refine Aa ?_ ?_|refine ahx ?_ ?_|refine Td ?_|refine abh ?_ ?_|refine abf ?_ ?_|refine uz ?_ ?_|exact G2|exact Tf|refine Tg ?_|refine ahw ahG ?_|refine MQ ?_ $[| refine $es]* | refine ue ?_|refine K8.t ?_)
section
variable {P:Program}{w:World}{K:W.Frag}{mg:Str->Option Value}{base:Heap}{a:Ad}
noncomputable abbrev XO:List Str:=["_law_script","_law_cells"]
theorem OE:aq XO ["_law_script"] (ak Wr):=fR
noncomputable def De:Fn:=dN XO (ao (bh 1 (ai cO (bL pQ (af (aa 0) aj)) (ai NO (kr (af (mC (.int 0)) aj)) (bL mE (af (ai (Cf false) (aa 0) (kr aj)) aj)))))
   (aD (jn [((mC (.str "cells")),(aa 1)),((mC (.str "at")),(mC (.int 0))),((mC (.str "left")),(mC (.int 60))),((mC (.str "number")),(ai Sy (ai aL (aa 1) (mC (.int 0))) (mC (.int 2)))),((mC (.str "digits")),(ai (bY false) (ai qN (ai aL (aa 1) (mC (.int 0))) (mC (.int 2))) (mC (.int 0))))])))
theorem acO (T:Txt K mg a):aQ P w K mg base eF 2 a.Ci a.uM ["_law_script"] (dU K (aF a) 1 De):=
 aT T.Xi.F OE λ_ _ _ _ _ _=>(by have:=OE.nd;exists (cI qR T.lJ zaT ?_),(MN ait ?_ ?_),(cI yo T.wm zbp ?_),(iJ ais ?_ ?_ (jT _)),(As ?_),(Ar ?_ ?_ ?_),oU)
noncomputable abbrev XQ:List Str:=["_law_draw","_law_many","_law_cells","_law_value","_law_k","_law_m"]
theorem OF:aq XQ ["_law_draw","_law_many"] (ak Ws):=fR
noncomputable def bM:Fn:=dN XQ (ao (bh 2 (ai kE (aa 0) (mC (.str "cells"))))
   (ao (cy (mB (ai kE (aa 0) (mC (.str "digits"))))
   (ao (bh 3 (ai qN (ai kE (aa 0) (mC (.str "number"))) (aa 1)))
   (ao (oH (aa 0) (mC (.str "number")) (ai Sy (ai kE (aa 0) (mC (.str "number"))) (aa 1)))
   (ao (oH (aa 0) (mC (.str "left")) (ai dJ (ai kE (aa 0) (mC (.str "left"))) (mC (.int 1))))
   (ao (cy (mB (ai (bY false) (ai kE (aa 0) (mC (.str "left"))) (mC (.int 0))))
   (ao (oH (aa 0) (mC (.str "at")) (ai cO (ai kE (aa 0) (mC (.str "at"))) (mC (.int 1))))
   (ao (oH (aa 0) (mC (.str "number")) (ai aL (aa 2) (ai qN (ai kE (aa 0) (mC (.str "at"))) (bL iM (af (aa 2) aj)))))
   (oH (aa 0) (mC (.str "left")) (mC (.int 60)))))
   ay)
   (aD (aa 3))))))
   ay)
   (ao (oH (aa 0) (mC (.str "at")) (ai cO (ai kE (aa 0) (mC (.str "at"))) (mC (.int 1))))
   (ao (bh 4 (ai kE (aa 0) (mC (.str "at"))))
   (ao (bh 5 (ai qN (ai uq (ai cO (ai cO (ai qN (ai aL (aa 2) (ai qN (aa 4) (bL iM (af (aa 2) aj)))) (mC (.int 2147483629))) (ai uq (ai uq (aa 4) (aa 4)) (mC (.int 7919)))) (mC (.int 11))) (mC (.int 48271))) (mC (.int 2147483647))))
   (ao (bh 5 (ai qN (ai uq (aa 5) (aa 5)) (mC (.int 1999999973))))
   (aD (ai qN (ai Sy (aa 5) (mC (.int 7))) (aa 1)))))))))
theorem o5 (T:Txt K mg a):aQ P w K mg base eF 2 a.Cj a.uN ["_law_draw","_law_many"] (dU K (aF a) 2 bM):=
 aT T.rX.F OF λ_ _ _ _ _ _=>(by have:=OF.nd;exists (M3 ?_ ?_),(Aj ?_ ?_ ?_),(dz kF T.kH zaZ ?_))
noncomputable abbrev XR:List Str:=["_law_draw","_law_rules_here","_law_side"]
theorem OG:aq XR ["_law_draw"] (ak Wt):=fR
noncomputable def HG:Fn:=dN XR (ao (bh 1 (oF (af (ai cO (mC (.int 1)) (dM 2 bM (af (aa 0) (af (mC (.int 6)) aj)))) (af (dM 2 bM (af (aa 0) (af (mC (.int 5)) aj))) (af (dM 2 bM (af (aa 0) (af (mC (.int 3)) aj))) (af (dM 2 bM (af (aa 0) (af (mC (.int 3)) aj))) (af (dM 2 bM (af (aa 0) (af (mC (.int 3)) aj))) aj)))))))
   (ao (cy (mB (ai (bY false) (dM 2 bM (af (aa 0) (af (mC (.int 4)) aj))) (mC (.int 0))))
   (mG (kr (af (dM 2 bM (af (aa 0) (af (mC (.int 10)) aj))) (af (dM 2 bM (af (aa 0) (af (mC (.int 10)) aj))) aj))) (NU (aa 1) (mC (.int 3)) (mC (.int 5))))
   ay)
   (ao (bh 2 (ai aL (kr (af (ai cO (mC (.int 2)) (dM 2 bM (af (aa 0) (af (mC (.int 4)) aj)))) (af (mC (.int 11)) aj))) (bL mE (af (ai (bY false) (dM 2 bM (af (aa 0) (af (mC (.int 8)) aj))) (mC (.int 0))) aj))))
   (aD (bL lB (af (ai cO (aa 1) (kr (af (aa 2) (af (ai cO (mC (.int 1)) (dM 2 bM (af (aa 0) (af (mC (.int 2)) aj)))) (af (ai uq (dM 2 bM (af (aa 0) (af (mC (.int 2)) aj))) (mC (.int 5))) aj))))) aj))))))
theorem acP (T:Txt K mg a):aQ P w K mg base eF 3 a.Ck a.uO ["_law_draw"] (dU K (aF a) 1 HG):=
 aT T.Xj.F OG λ_ _ _ _ _ _=>(by have:=OG.nd;exists (cJ (o5 T) T.rX ?_),(acq ?_ ?_ ?_),(cI yo T.wm zbp ?_),(cI Ai T.nU zbA ?_))
noncomputable abbrev XS:List Str:=["teams","word","names","name","players"]
theorem AV:aq XS ["teams","word"] (ak NW):=fR
noncomputable def Df:Fn:=dN XS (ao (cy (mB (ai (bY false) (aa 1) (mC (.str "team"))))
   (aD (gx (qS iL (aa 0)) [] 2 (jM 2 (cY (bD 0) (cY (bD 1) oS))) iX (aa 0)))
   ay)
   (ao (bh 2 (oF aj))
   (ao (qT (qS iL (aa 0)) (jM 2 (cY (bD 3) (cY (bD 4) oS)))
   (dW (pR DY SQ (aa 2) (af (aa 4) aj))))
   (aD (aa 2)))))
theorem OH (T:Txt K mg a):aQ P w K mg base eF 2 a.Cm a.uP ["teams","word"] (dU K (aF a) 2 Df):=
 aT T.N9.F AV λ_ _ _ _ _ _=>(by have:=AV.nd;exists (ie (F:=[]) (T:=["name","players"]) (fr:=[]) (Ht NW (by decide +kernel)) ?_ (λ_ _ _ _ _=>?_) (λ_ _ _ _ _=>?_) (λ_ _ _ _ _=>?_)),(lC (n:=2) ?_),(d9 0 (show (["name","players"]:List Str).Nodup by decide +kernel)),(d9 1 (show (["name","players"]:List Str).Nodup by decide +kernel)),(nk zbM ?_ ?_ ?_),(d9 3 AV.nd),(d9 4 AV.nd),(oR zaY PySem.F.slot_list_extend PySem.F.type_list_extend ni M5 ?_ ?_))
noncomputable abbrev XT:List Str:=["self","rules","teams"]
theorem OI:aq XT ["self","rules","teams"] (ak NX):=fR
noncomputable def HH:Fn:=dN XT (ao (cC ["Match"] "rules" (aa 0) (aa 1))
   (ao (cC ["Match"] "sides" (aa 0) (gx (qS iL (aa 2)) [] 2 (jM 2 (cY (bD 0) (cY (bD 1) oS))) iX (cL (af (aa 0) (af (bL pQ (af (aa 1) aj)) aj)))))
   (ao (cC ["Match"] "known" (aa 0) (dM 2 Df (af (aa 2) (af (mC (.str "player")) aj))))
   (ao (cC ["Match"] "played" (aa 0) (oF aj))
   (ao (cC ["Match"] "followed" (aa 0) (mC (.bl false)))
   (ao (cC ["Match"] "closed" (aa 0) (mC (.bl false)))
   (cC ["Match"] "balls_told" (aa 0) (oF aj))))))))
theorem acQ (T:Txt K mg a):aQ P w K mg base eF 3 a.uL a.uQ ["self","rules","teams"] (dU K (aF a) 3 HH):=
 aT T.Xk.F OI λ_ _ _ _ _ _=>(by have:=OI.nd;exists (bf (qZ T) ?_ ?_),(bf (jq T) ?_ ?_),(ie (F:=[]) (T:=["name","players"]) (fr:=[]) (Ht NX (by decide +kernel)) ?_ (λ_ _ _ _ _=>?_) (λ_ _ _ _ _=>?_) (λ_ _ _ _ _=>?_)),(lC (n:=2) ?_),(d9 0 (show (["name","players"]:List Str).Nodup by decide +kernel)),(d9 1 (show (["name","players"]:List Str).Nodup by decide +kernel)),(cI qR T.lJ zaT ?_),(bf (FI T) ?_ ?_),(cJ (OH T) T.N9 ?_),(bf (jY T) ?_ ?_),(bf (AR T) ?_ ?_),(bf (FJ T) ?_ ?_),(bf (FL T) ?_ ?_))
noncomputable abbrev XU:List Str:=["_law_draw","_law_side","_law_letters","_law_first","_law_one","_law_other","_law_names"]
theorem AW:aq XU ["_law_draw","_law_side"] (ak Hw):=fR
noncomputable def HJ:Fn:=dN XU (ao (bh 2 (mC (.str "abcdfghjklmp")))
   (ao (bh 3 (dM 2 bM (af (aa 0) (af (mC (.int 12)) aj))))
   (ao (bh 4 (gx (yr (af (aa 1) aj)) [2,0,3] 1 (bD 3) iX (ai cO (ai uq (mC (.str "t")) (ai cO (mC (.int 1)) (dM 2 bM (af (aa 1) (af (mC (.int 3)) aj))))) (ai aL (aa 0) (ai qN (ai cO (aa 2) (aa 3)) (mC (.int 12)))))))
   (ao (bh 5 (gx (yr (af (aa 1) aj)) [2,0,3] 1 (bD 3) iX (ai cO (ai cO (mC (.str "v")) (ai aL (aa 0) (ai qN (ai cO (aa 2) (aa 3)) (mC (.int 12))))) (ai uq (mC (.str "v")) (dM 2 bM (af (aa 1) (af (mC (.int 3)) aj)))))))
   (ao (bh 6 (kr (af (ai aL (aa 4) (mC (.int 0))) (af (mC (.str "vx")) aj))))
   (ao (cy (mB (ai (bY false) (dM 2 bM (af (aa 0) (af (mC (.int 2)) aj))) (mC (.int 0))))
   (bh 6 (kr (af (mC (.str "tz")) (af (ai aL (aa 5) (mUn Ac (mC (.int 1)))) aj))))
   ay)
   (aD (kr (af (cL (af (ai aL (aa 6) (mC (.int 0))) (af (aa 4) aj))) (af (cL (af (ai aL (aa 6) (mC (.int 1))) (af (aa 5) aj))) aj))))))))))
theorem acR (T:Txt K mg a):aQ P w K mg base eF 3 a.Cn a.uR ["_law_draw","_law_side"] (dU K (aF a) 2 HJ):=
 aT T.Xl.F AW λ_ _ _ _ _ _=>(by have:=AW.nd;exists (cJ (o5 T) T.rX ?_),(Ao (target:=.Name "_law_k" _) (i0:=4) (F:=["_law_letters","_law_draw","_law_first"]) (T:=["_law_k"]) (fr:=[2,0,3]) (Ht Hw (by decide +kernel)) ?_ (λ_ _ _ _ _=>?_) (λ_ _ _ _ _=>?_) (λ_ _ _ _ _=>?_) AW.nd rfl rfl rfl),(Am T.AM ?_),(d9 3 (show (["_law_letters","_law_draw","_law_first","_law_k"]:List Str).Nodup by decide +kernel)),(Ao (target:=.Name "_law_k" _) (i0:=5) (F:=["_law_letters","_law_draw","_law_first"]) (T:=["_law_k"]) (fr:=[2,0,3]) (Ht Hw (by decide +kernel)) ?_ (λ_ _ _ _ _=>?_) (λ_ _ _ _ _=>?_) (λ_ _ _ _ _=>?_) AW.nd rfl rfl rfl))
noncomputable abbrev XW:List Str:=["self"]
theorem OJ:aq XW ["self"] (ak Wu):=fR
noncomputable def jr:Fn:=dN XW (ao (cy (EZ (mB (ai (bY false) (bL iM (af (bB ["Match"] "played" (aa 0)) aj)) (mC (.int 0)))) (mB (ai (bY true) (bB ["Innings"] "ending" (ai aL (bB ["Match"] "played" (aa 0)) (mUn Ac (mC (.int 1))))) (mC (.str "")))))
   (aD (mC .bz))
   ay)
   (aD (ai aL (bB ["Match"] "played" (aa 0)) (mUn Ac (mC (.int 1))))))
theorem iR (T:Txt K mg a):aQ P w K mg base eF 2 a.yF a.uS ["self"] (dU K (aF a) 1 jr):=
 aT T.jR.F OJ λ_ _ _ _ _ _=>(by have:=OJ.nd;exists (dz kF T.kH zaZ ?_),(aE (jY T) ?_),(aE (wz T) ?_))
noncomputable abbrev XX:List Str:=["self"]
theorem OL:aq XX ["self"] (ak Wv):=fR
noncomputable def wA:Fn:=dN XX (aD (ai uq (mC (.int 2)) (ai aL (bB ["Match"] "rules" (aa 0)) (mC (.int 6)))))
theorem FQ (T:Txt K mg a):aQ P w K mg base eF 2 a.yG a.uU ["self"] (dU K (aF a) 1 wA):=
 aT T.C_.F OL λ_ _ _ _ _ _=>(by have:=OL.nd;exists (cg T.qc),(aE (qZ T) ?_),(cg T.AN))
noncomputable abbrev XY:List Str:=["self","side"]
theorem OM:aq XY ["self","side"] (ak NY):=fR
noncomputable def Dg:Fn:=rQ (dN XY (aD (bL SK (af (gx (qS iL (bB ["Match"] "played" (aa 0))) [1] 1 (bD 1) (mB (ai (bY false) (bB ["Innings"] "side" (aa 1)) (aa 0))) (bB ["Innings"] "total" (aa 1))) aj))))
theorem acS (T:Txt K mg a):aQ P w K mg base eF 2 a.yH a.uV ["self","side"] (dU K (aF a) 2 Dg):=
 aQ.pure (aT T.N_.F OM λ_ _ _ _ _ _=>(by have:=OM.nd;exists (dz ahJ T.ai7 PyProof.Rows.boot_sum ?_),(ie (F:=["side"]) (T:=["innings"]) (fr:=[1]) (Ht NY (by decide +kernel)) ?_ (λ_ _ _ _ _=>?_) (λ_ _ _ _ _=>?_) (λ_ _ _ _ _=>?_)),(aE (jY T) ?_),(d9 1 (show (["side","innings"]:List Str).Nodup by decide +kernel)),(aE (ny T) ?_),(aE (AQ T) ?_)))
noncomputable abbrev XZ:List Str:=["self","side"]
theorem ON:aq XZ ["self","side"] (ak Ww):=fR
noncomputable def zh:Fn:=dN XZ (aD (ai dJ (aR "Match" "total_of" 2 Dg (aa 0) (af (aa 1) aj)) (aR "Match" "total_of" 2 Dg (aa 0) (af (ai dJ (mC (.int 1)) (aa 1)) aj))))
theorem FT (T:Txt K mg a):aQ P w K mg base eF 3 a.yI a.uW ["self","side"] (dU K (aF a) 2 zh):=
 aT T.Dc.F ON λ_ _ _ _ _ _=>(by have:=ON.nd;exists (bN (aB T) (Up T) (acS T) (by decide) T.N_.b aG ?_ ?_))
noncomputable abbrev X0:List Str:=["self","count"]
theorem OO:aq X0 ["self"] (ak Wx):=fR
noncomputable def Dh:Fn:=dN X0 (ao (cy (mB (bB ["Match"] "closed" (aa 0)))
   (aD (mC (.bl true)))
   ay)
   (ao (cy (mB (ai (i9 true) (aR "Match" "going" 1 jr (aa 0) aj) (mC .bz)))
   (aD (mC (.bl false)))
   ay)
   (ao (bh 1 (bL iM (af (bB ["Match"] "played" (aa 0)) aj)))
   (ao (cy (mD (mB (ai (bY false) (aa 1) (ai dJ (mC (.int 4)) (mC (.int 1))))) (mB (ai (bY false) (aR "Match" "most_innings" 1 wA (aa 0) aj) (mC (.int 4)))))
   (aD (ai V9 (aR "Match" "lead_of" 2 zh (aa 0) (af (bB ["Innings"] "side" (ai aL (bB ["Match"] "played" (aa 0)) (mUn Ac (mC (.int 1))))) aj)) (mC (.int 0))))
   ay)
   (aD (ai gGe (aa 1) (aR "Match" "most_innings" 1 wA (aa 0) aj)))))))
theorem OP (T:Txt K mg a):aQ P w K mg base eF 4 a.yJ a.uX ["self"] (dU K (aF a) 1 Dh):=
 aT T.Hy.F OO λ_ _ _ _ _ _=>(by have:=OO.nd;exists (aE (FJ T) ?_),(aW (aB T) (gh T) (iR T) (by decide) T.jR.b aG ?_),(dz kF T.kH zaZ ?_),(aE (jY T) ?_),(cg T.qb),(aW (aB T) (AS T) (FQ T) (by decide) T.C_.b aG ?_),(bN (aB T) (AU T) (FT T) (by decide) T.Dc.b aG ?_ ?_),(aE (ny T) ?_))
noncomputable abbrev X3:List Str:=["self","last"]
theorem OQ:aq X3 ["self"] (ak Wz):=fR
noncomputable def Di:Fn:=dN X3 (ao (cy (EZ (mB (ai (bY false) (bL iM (af (bB ["Match"] "played" (aa 0)) aj)) (mC (.int 0)))) (EZ (mB (ai (i9 true) (aR "Match" "going" 1 jr (aa 0) aj) (mC .bz))) (mB (aR "Match" "is_done" 1 Dh (aa 0) aj))))
   (aD (mC .bz))
   ay)
   (ao (bh 1 (bB ["Innings"] "side" (ai aL (bB ["Match"] "played" (aa 0)) (mUn Ac (mC (.int 1))))))
   (ao (cy (mD (mB (bB ["Match"] "followed" (aa 0))) (mB (ai (bY false) (bL iM (af (bB ["Match"] "played" (aa 0)) aj)) (mC (.int 2)))))
   (aD (aa 1))
   ay)
   (aD (ai dJ (mC (.int 1)) (aa 1))))))
theorem OR (T:Txt K mg a):aQ P w K mg base eF 5 a.yK a.uY ["self"] (dU K (aF a) 1 Di):=
 aT T.Hz.F OQ λ_ _ _ _ _ _=>(by have:=OQ.nd;exists (dz kF T.kH zaZ ?_),(aE (jY T) ?_),(aW (aB T) (gh T) (iR T) (by decide) T.jR.b aG ?_),(aW (aB T) (HC T) (OP T) (by decide) T.Hy.b aG ?_),(aE (ny T) ?_),(aE (AR T) ?_))
noncomputable abbrev X4:List Str:=["self","team","side"]
theorem FU:aq X4 ["self","team"] (ak WA):=fR
noncomputable def Dl:Fn:=dN X4 (ao (qT (yr (af (mC (.int 2)) aj)) (bD 2)
   (cy (mD (mB (ai (bY false) (ai aL (ai aL (bB ["Match"] "sides" (aa 0)) (aa 2)) (mC (.int 0))) (aa 1))) (EZ (mB (ai (bY false) (bL iM (af (bB ["Match"] "played" (aa 0)) aj)) (mC (.int 0)))) (mB (ai (bY false) (aa 2) (aR "Match" "next_side" 1 Di (aa 0) aj)))))
   (aD (aa 2))
   ay))
   (aD (mC .bz)))
theorem OS (T:Txt K mg a):aQ P w K mg base eF 6 a.yL a.uZ ["self","team"] (dU K (aF a) 2 Dl):=
 aT T.HA.F FU λ_ _ _ _ _ _=>(by have:=FU.nd;exists (nk zbM ?_ ?_ ?_),(Am T.AM ?_),(cg T.qc),(d9 2 FU.nd),(aE (jq T) ?_),(dz kF T.kH zaZ ?_),(aE (jY T) ?_),(aW (aB T) (HD T) (OR T) (by decide) T.Hz.b aG ?_))
noncomputable abbrev X5:List Str:=["self","entry","side","batting","fielding"]
theorem OT:aq X5 ["self","entry"] (ak WB):=fR
noncomputable def HK:Fn:=dN X5 (ao (cy (mB (ai (i9 true) (aR "Match" "going" 1 jr (aa 0) aj) (mC .bz)))
   (aD (mC (.str "going")))
   ay)
   (ao (bh 2 (aR "Match" "side_to_start" 2 Dl (aa 0) (af (ai aL (aa 1) (mC (.int 1))) aj)))
   (ao (cy (mB (ai (i9 false) (aa 2) (mC .bz)))
   (aD (mC (.str "turn")))
   ay)
   (ao (bh 3 (ai aL (ai aL (bB ["Match"] "sides" (aa 0)) (aa 2)) (mC (.int 1))))
   (ao (bh 4 (ai aL (ai aL (bB ["Match"] "sides" (aa 0)) (ai dJ (mC (.int 1)) (aa 2))) (mC (.int 1))))
   (ao (cy (EZ (mB (ai (uv true) (ai aL (aa 1) (mC (.int 2))) (aa 3))) (EZ (mB (ai (uv true) (ai aL (aa 1) (mC (.int 3))) (aa 3))) (mB (ai (uv true) (ai aL (aa 1) (mC (.int 4))) (aa 4)))))
   (aD (mC (.str "team")))
   ay)
   (aD (DW (mB (ai (bY false) (ai aL (aa 1) (mC (.int 2))) (ai aL (aa 1) (mC (.int 3))))) (mC (.str "alike")) (mC .bz)))))))))
theorem acT (T:Txt K mg a):aQ P w K mg base eF 7 a.yM a.u5 ["self","entry"] (dU K (aF a) 2 HK):=
 aT T.Oa.F OT λ_ _ _ _ _ _=>(by have:=OT.nd;exists (aW (aB T) (gh T) (iR T) (by decide) T.jR.b aG ?_),(bN (aB T) (HE T) (OS T) (by decide) T.HA.b aG ?_ ?_),(aE (jq T) ?_),(gH BY ?_ ?_ (by with_unfolding_all rfl)))
noncomputable abbrev X6:List Str:=["self","name"]
theorem OU:aq X6 ["self","name"] (ak WC):=fR
noncomputable def qf:Fn:=dN X6 (aD (ai (uv false) (aa 1) (cL (af (bB ["Innings"] "facing" (aa 0)) (af (bB ["Innings"] "other" (aa 0)) aj)))))
theorem q8 (T:Txt K mg a):aQ P w K mg base eF 2 a.yN a.u6 ["self","name"] (dU K (aF a) 2 qf):=
 aT T.rY.F OU λ_ _ _ _ _ _=>(by have:=OU.nd;exists (iJ xB ?_ ?_ (by with_unfolding_all rfl)),(aE (iQ T) ?_),(aE (nA T) ?_))
noncomputable abbrev X7:List Str:=["innings","old"]
theorem OV:aq X7 ["innings","old"] (ak WD):=fR
noncomputable def HL:Fn:=dN X7 (aD (DW (EZ (mB (aR "Innings" "stands" 2 qf (aa 0) (af (aa 1) aj))) (mB (ai (bY false) (aa 1) (bB ["Innings"] "bowler" (aa 0))))) (mC (.str "there")) (mC .bz)))
theorem acU (T:Txt K mg a):aQ P w K mg base eF 3 a.Co a.u9 ["innings","old"] (dU K (aF a) 2 HL):=
 aT T.Xm.F OV λ_ _ _ _ _ _=>(by have:=OV.nd;exists (bN (aU T) (nX T) (q8 T) (by decide) T.rY.b aG ?_ ?_),(aE (lK T) ?_))
noncomputable abbrev X8:List Str:=["self","old","new","going"]
theorem OW:aq X8 ["self","old","new"] (ak WE):=fR
noncomputable def HM:Fn:=dN X8 (ao (cy (mB (ai (uv true) (aa 1) (dM 2 Df (af (bB ["Match"] "sides" (aa 0)) (af (mC (.str "player")) aj)))))
   (aD (mC (.str "team")))
   ay)
   (ao (cy (mB (ai (uv false) (aa 2) (bB ["Match"] "known" (aa 0))))
   (aD (mC (.str "name")))
   ay)
   (ao (bh 3 (aR "Match" "going" 1 jr (aa 0) aj))
   (aD (DW (mB (ai (i9 false) (aa 3) (mC .bz))) (mC .bz) (dM 2 HL (af (aa 3) (af (aa 1) aj))))))))
theorem acV (T:Txt K mg a):aQ P w K mg base eF 4 a.yO a.u_ ["self","old","new"] (dU K (aF a) 3 HM):=
 aT T.Ob.F OW λ_ _ _ _ _ _=>(by have:=OW.nd;exists (gH BY ?_ ?_ (by with_unfolding_all rfl)),(cJ (OH T) T.N9 ?_),(aE (jq T) ?_),(gH xB ?_ ?_ (by with_unfolding_all rfl)),(aE (FI T) ?_),(aW (aB T) (gh T) (iR T) (by decide) T.jR.b aG ?_),(cJ (acU T) T.Xm ?_))
noncomputable abbrev X_:List Str:=["self"]
theorem OX:aq X_ ["self"] (ak WG):=fR
noncomputable def HN:Fn:=dN X_ (ao (cy (EZ (mB (ai (bY true) (bL iM (af (bB ["Match"] "played" (aa 0)) aj)) (mC (.int 2)))) (EZ (mB (ai (bY true) (aR "Match" "most_innings" 1 wA (aa 0) aj) (mC (.int 4)))) (mB (bB ["Match"] "followed" (aa 0)))))
   (aD (mC (.bl false)))
   ay)
   (aD (m_ V9 gLe (mC (.int 0)) (ai aL (bB ["Match"] "rules" (aa 0)) (mC (.int 7))) (aR "Match" "lead_of" 2 zh (aa 0) (af (bB ["Innings"] "side" (ai aL (bB ["Match"] "played" (aa 0)) (mC (.int 0)))) aj)))))
theorem acW (T:Txt K mg a):aQ P w K mg base eF 4 a.yP a.vc ["self"] (dU K (aF a) 1 HN):=
 aT T.Oc.F OX λ_ _ _ _ _ _=>(by have:=OX.nd;exists (dz kF T.kH zaZ ?_),(aE (jY T) ?_),(aW (aB T) (AS T) (FQ T) (by decide) T.C_.b aG ?_),(cg T.qb),(aE (AR T) ?_),(MP MU MV ?_ ?_ ?_),(aE (qZ T) ?_),(cg T.C7),(bN (aB T) (AU T) (FT T) (by decide) T.Dc.b aG ?_ ?_),(aE (ny T) ?_))
noncomputable abbrev Yb:List Str:=["self"]
theorem OY:aq Yb ["self"] (ak WH):=fR
noncomputable def HP:Fn:=dN Yb (ao (cy (mB (ai (i9 true) (aR "Match" "going" 1 jr (aa 0) aj) (mC .bz)))
   (aD (mC (.str "going")))
   ay)
   (aD (DW (mB (aR "Match" "may_follow" 1 HN (aa 0) aj)) (mC .bz) (mC (.str "follow")))))
theorem acX (T:Txt K mg a):aQ P w K mg base eF 5 a.yQ a.vd ["self"] (dU K (aF a) 1 HP):=
 aT T.Od.F OY λ_ _ _ _ _ _=>(by have:=OY.nd;exists (aW (aB T) (gh T) (iR T) (by decide) T.jR.b aG ?_),(aW (aB T) (Us T) (acW T) (by decide) T.Oc.b aG ?_))
noncomputable abbrev ajq:List Str:=["self"]
theorem Yc:aq ajq ["self"] (ak aiX):=fR
noncomputable def Ka:Fn:=dN ajq (aD (aR "Innings" "stands" 2 qf (aa 0) (af (mC (.str "")) aj)))
theorem OZ (T:Txt K mg a):aQ P w K mg base eF 3 a.JS a.CW ["self"] (dU K (aF a) 1 Ka):=
 aT T.Oe.F Yc λ_ _ _ _ _ _=>(by have:=Yc.nd;exists (bN (aU T) (nX T) (q8 T) (by decide) T.rY.b aG ?_ ?_))
noncomputable abbrev Yd:List Str:=["kind","runs"]
theorem O0:aq Yd ["kind","runs"] (ak WI):=fR
noncomputable def HQ:Fn:=dN Yd (aD (V8 (ai (bY false) (aa 1) (mC (.int 4))) (i8 (ai (bY false) (aa 1) (mC (.int 6))) (ai (uv false) (aa 0) (cL (af (mC (.str "bat")) (af (mC (.str "no")) aj)))))))
theorem acY (T:Txt K mg a):aQ P w K mg base eF 2 a.Cp a.ve ["kind","runs"] (dU K (aF a) 2 HQ):=
 aT T.Xn.F O0 λ_ _ _ _ _ _=>(by have:=O0.nd;exists (cg T.N8),(cg T.Xh),(iJ xB ?_ ?_ (by with_unfolding_all rfl)))
noncomputable abbrev Ye:List Str:=["kind","runs","rope","way"]
theorem O2:aq Ye ["kind","runs","rope","way"] (ak WJ):=fR
noncomputable def HS:Fn:=dN Ye (ao (cy (mB (ai (bY false) (aa 3) (mC (.str ""))))
   (aD (mC (.bl true)))
   ay)
   (ao (cy (mB (aa 2))
   (aD (mC (.bl false)))
   ay)
   (ao (cy (mB (ai (bY false) (aa 3) (mC (.str "run"))))
   (aD (mC (.bl true)))
   ay)
   (ao (cy (mB (ai (bY true) (aa 1) (mC (.int 0))))
   (aD (mC (.bl false)))
   ay)
   (ao (cy (mB (ai (uv false) (aa 3) (cL (af (mC (.str "stumped")) (af (mC (.str "hit")) aj)))))
   (aD (ai (uv false) (aa 0) (cL (af (mC (.str "bat")) (af (mC (.str "wide")) aj)))))
   ay)
   (aD (ai (bY false) (aa 0) (mC (.str "bat")))))))))
theorem acZ (T:Txt K mg a):aQ P w K mg base eF 2 a.Cq a.vf ["kind","runs","rope","way"] (dU K (aF a) 4 HS):=
 aT T.Xo.F O2 λ_ _ _ _ _ _=>(by have:=O2.nd;exists (gH xB ?_ ?_ (by with_unfolding_all rfl)),(iJ xB ?_ ?_ (by with_unfolding_all rfl)))
noncomputable abbrev Yg:List Str:=["entry","kind","runs","rope"]
theorem O3:aq Yg ["entry"] (ak WK):=fR
noncomputable def HU:Fn:=dN Yg (ao (bh 1 (ai aL (aa 0) (mC (.int 1))))
   (ao (bh 2 (ai aL (aa 0) (mC (.int 2))))
   (ao (bh 3 (ai aL (aa 0) (mC (.int 3))))
   (ao (cy (mD (mB (aa 3)) (xy (mB (dM 2 HQ (af (aa 1) (af (aa 2) aj))))))
   (aD (mC (.str "rope")))
   ay)
   (ao (cy (xy (mB (dM 4 HS (af (aa 1) (af (aa 2) (af (aa 3) (af (ai aL (aa 0) (mC (.int 4))) aj)))))))
   (aD (mC (.str "way")))
   ay)
   (aD (mC .bz)))))))
theorem ac0 (T:Txt K mg a):aQ P w K mg base eF 3 a.Cr a.vg ["entry"] (dU K (aF a) 1 HU):=
 aT T.Xp.F O3 λ_ _ _ _ _ _=>(by have:=O3.nd;exists (cJ (acY T) T.Xn ?_),(cJ (acZ T) T.Xo ?_))
noncomputable abbrev Yh:List Str:=["innings","entry","fault"]
theorem O4:aq Yh ["innings","entry"] (ak WL):=fR
noncomputable def HV:Fn:=dN Yh (ao (cy (mB (aR "Innings" "has_gap" 1 Ka (aa 0) aj))
   (aD (mC (.str "empty")))
   ay)
   (ao (cy (mB (ai (bY false) (bB ["Innings"] "bowler" (aa 0)) (mC (.str ""))))
   (aD (mC (.str "bowler")))
   ay)
   (ao (bh 2 (dM 1 HU (af (aa 1) aj)))
   (ao (cy (mD (mB (ai (i9 false) (aa 2) (mC .bz))) (mD (mB (ai (bY false) (ai aL (aa 1) (mC (.int 4))) (mC (.str "run")))) (xy (mB (aR "Innings" "stands" 2 qf (aa 0) (af (ai aL (aa 1) (mC (.int 5))) aj))))))
   (aD (mC (.str "who")))
   ay)
   (aD (aa 2))))))
theorem ac1 (T:Txt K mg a):aQ P w K mg base eF 4 a.Ct a.vh ["innings","entry"] (dU K (aF a) 2 HV):=
 aT T.Xq.F O4 λ_ _ _ _ _ _=>(by have:=O4.nd;exists (aW (aU T) (FO T) (OZ T) (by decide) T.Oe.b aG ?_),(aE (lK T) ?_),(cJ (ac0 T) T.Xp ?_),(bN (aU T) (nX T) (q8 T) (by decide) T.rY.b aG ?_ ?_))
noncomputable abbrev Yi:List Str:=["innings","batting","name"]
theorem O5:aq Yi ["innings","batting","name"] (ak WM):=fR
noncomputable def HW:Fn:=dN Yi (ao (cy (xy (mB (aR "Innings" "has_gap" 1 Ka (aa 0) aj)))
   (aD (mC (.str "full")))
   ay)
   (ao (cy (mB (ai (uv true) (aa 2) (aa 1)))
   (aD (mC (.str "team")))
   ay)
   (ao (cy (mB (ai (BZ false) (aa 2) (bB ["Innings"] "outs" (aa 0))))
   (aD (mC (.str "out")))
   ay)
   (aD (DW (mB (aR "Innings" "stands" 2 qf (aa 0) (af (aa 2) aj))) (mC (.str "there")) (mC .bz))))))
theorem ac2 (T:Txt K mg a):aQ P w K mg base eF 4 a.Cu a.vj ["innings","batting","name"] (dU K (aF a) 3 HW):=
 aT T.Xr.F O5 λ_ _ _ _ _ _=>(by have:=O5.nd;exists (aW (aU T) (FO T) (OZ T) (by decide) T.Oe.b aG ?_),(gH BY ?_ ?_ (by with_unfolding_all rfl)),(aa9 ?_ ?_),(aE (nV T) ?_),(bN (aU T) (nX T) (q8 T) (by decide) T.rY.b aG ?_ ?_))
noncomputable abbrev Yj:List Str:=["innings","fielding","spell","name"]
theorem O6:aq Yj ["innings","fielding","spell","name"] (ak WN):=fR
noncomputable def HX:Fn:=dN Yj (ao (cy (mB (ai (bY true) (bB ["Innings"] "bowler" (aa 0)) (mC (.str ""))))
   (aD (mC (.str "bowling")))
   ay)
   (ao (cy (mB (ai (uv true) (aa 3) (aa 1)))
   (aD (mC (.str "team")))
   ay)
   (ao (cy (mB (ai (bY false) (aa 3) (bB ["Innings"] "ahead" (aa 0))))
   (aD (mC (.str "twice")))
   ay)
   (ao (cy (mB (m_ V9 gLe (mC (.int 0)) (aa 2) (G7 (bB ["Innings"] "spells" (aa 0)) (aa 3) (mC (.int 0)))))
   (aD (mC (.str "spell")))
   ay)
   (aD (mC .bz))))))
theorem ac3 (T:Txt K mg a):aQ P w K mg base eF 2 a.Cv a.vm ["innings","fielding","spell","name"] (dU K (aF a) 4 HX):=
 aT T.Xs.F O6 λ_ _ _ _ _ _=>(by have:=O6.nd;exists (aE (lK T) ?_),(gH BY ?_ ?_ (by with_unfolding_all rfl)),(aE (wo T) ?_),(BU MU MV ?_ ?_ ?_),(G8 ?_ ?_ ?_),(aE (qd T) ?_))
noncomputable abbrev Yk:List Str:=["innings","rules","batting","fielding","entry"]
theorem O7:aq Yk ["innings","rules","batting","fielding","entry"] (ak WO):=fR
noncomputable def HY:Fn:=dN Yk (ao (cy (mB (ai (bY false) (ai aL (aa 4) (mC (.int 0))) (mC (.str "ball"))))
   (aD (dM 2 HV (af (aa 0) (af (aa 4) aj))))
   ay)
   (ao (cy (mB (ai (bY false) (ai aL (aa 4) (mC (.int 0))) (mC (.str "in"))))
   (aD (dM 3 HW (af (aa 0) (af (aa 2) (af (ai aL (aa 4) (mC (.int 1))) aj)))))
   ay)
   (ao (cy (mB (ai (bY false) (ai aL (aa 4) (mC (.int 0))) (mC (.str "bowl"))))
   (aD (dM 4 HX (af (aa 0) (af (aa 3) (af (ai aL (aa 1) (mC (.int 2))) (af (ai aL (aa 4) (mC (.int 1))) aj))))))
   ay)
   (ao (cy (mB (ai (bY false) (ai aL (aa 4) (mC (.int 0))) (mC (.str "hurt"))))
   (aD (DW (mB (aR "Innings" "stands" 2 qf (aa 0) (af (ai aL (aa 4) (mC (.int 1))) aj))) (mC .bz) (mC (.str "who"))))
   ay)
   (aD (mC .bz))))))
theorem ac4 (T:Txt K mg a):aQ P w K mg base eF 5 a.Cw a.vn ["innings","rules","batting","fielding","entry"] (dU K (aF a) 5 HY):=
 aT T.Xu.F O7 λ_ _ _ _ _ _=>(by have:=O7.nd;exists (cJ (ac1 T) T.Xq ?_),(cJ (ac2 T) T.Xr ?_),(cJ (ac3 T) T.Xs ?_),(cg T.FF),(bN (aU T) (nX T) (q8 T) (by decide) T.rY.b aG ?_ ?_))
noncomputable abbrev Yl:List Str:=["self","entry","going","batting","fielding"]
theorem O8:aq Yl ["self","entry"] (ak WQ):=fR
noncomputable def r9:Fn:=dN Yl (ao (cy (mB (aR "Match" "is_done" 1 Dh (aa 0) aj))
   (aD (mC (.str "done")))
   ay)
   (ao (cy (mB (ai (bY false) (ai aL (aa 1) (mC (.int 0))) (mC (.str "start"))))
   (aD (aR "Match" "start_refusal" 2 HK (aa 0) (af (aa 1) aj)))
   ay)
   (ao (cy (mB (ai (bY false) (ai aL (aa 1) (mC (.int 0))) (mC (.str "swap"))))
   (aD (aR "Match" "swap_refusal" 3 HM (aa 0) (af (ai aL (aa 1) (mC (.int 1))) (af (ai aL (aa 1) (mC (.int 2))) aj))))
   ay)
   (ao (cy (mB (ai (bY false) (ai aL (aa 1) (mC (.int 0))) (mC (.str "follow"))))
   (aD (aR "Match" "follow_refusal" 1 HP (aa 0) aj))
   ay)
   (ao (cy (mB (ai (bY false) (ai aL (aa 1) (mC (.int 0))) (mC (.str "close"))))
   (aD (mC .bz))
   ay)
   (ao (bh 2 (aR "Match" "going" 1 jr (aa 0) aj))
   (ao (cy (mB (ai (i9 false) (aa 2) (mC .bz)))
   (aD (mC (.str "none")))
   ay)
   (ao (bh 3 (ai aL (ai aL (bB ["Match"] "sides" (aa 0)) (bB ["Innings"] "side" (aa 2))) (mC (.int 1))))
   (ao (bh 4 (ai aL (ai aL (bB ["Match"] "sides" (aa 0)) (ai dJ (mC (.int 1)) (bB ["Innings"] "side" (aa 2)))) (mC (.int 1))))
   (aD (dM 5 HY (af (aa 2) (af (bB ["Match"] "rules" (aa 0)) (af (aa 3) (af (aa 4) (af (aa 1) aj))))))))))))))))
theorem ac5 (T:Txt K mg a):aQ P w K mg base eF 8 a.yR a.vo ["self","entry"] (dU K (aF a) 2 r9):=
 aT T.Of.F O8 λ_ _ _ _ _ _=>(by have:=O8.nd;exists (aW (aB T) (HC T) (OP T) (by decide) T.Hy.b aG ?_),(bN (aB T) (Uq T) (acT T) (by decide) T.Oa.b aG ?_ ?_),(bN (aB T) (Ur T) (acV T) (by decide) T.Ob.b aG ?_ ?_),(aW (aB T) (Ut T) (acX T) (by decide) T.Od.b aG ?_),(aW (aB T) (gh T) (iR T) (by decide) T.jR.b aG ?_),(aE (jq T) ?_),(aE (ny T) ?_),(cJ (ac4 T) T.Xu ?_),(aE (qZ T) ?_))
noncomputable abbrev ajr:List Str:=["self","side","facing","other","bowler"]
theorem Ym:aq ajr ["self","side","facing","other","bowler"] (ak aiY):=fR
noncomputable def UI:Fn:=dN ajr (ao (cC ["Innings"] "side" (aa 0) (aa 1))
   (ao (cC ["Innings"] "facing" (aa 0) (aa 2))
   (ao (cC ["Innings"] "other" (aa 0) (aa 3))
   (ao (cC ["Innings"] "bowler" (aa 0) (aa 4))
   (ao (cC ["Innings"] "ahead" (aa 0) (mC (.str "")))
   (ao (cC ["Innings"] "total" (aa 0) (mC (.int 0)))
   (ao (cC ["Innings"] "wickets" (aa 0) (mC (.int 0)))
   (ao (cC ["Innings"] "overs" (aa 0) (mC (.int 0)))
   (ao (cC ["Innings"] "balls" (aa 0) (mC (.int 0)))
   (ao (cC ["Innings"] "ending" (aa 0) (mC (.str "")))
   (ao (cC ["Innings"] "outs" (aa 0) Fe)
   (cC ["Innings"] "spells" (aa 0) (jn [((aa 4),(mC (.int 1)))])))))))))))))
theorem ajs (T:Txt K mg a):aQ P w K mg base eF 2 a.Fy a.CY ["self","side","facing","other","bowler"] (dU K (aF a) 5 UI):=
 aT T.ai8.F Ym λ_ _ _ _ _ _=>(by have:=Ym.nd;exists (bf (ny T) ?_ ?_),(bf (iQ T) ?_ ?_),(bf (nA T) ?_ ?_),(bf (lK T) ?_ ?_),(bf (wo T) ?_ ?_),(bf (AQ T) ?_ ?_),(bf (FH T) ?_ ?_),(bf (wu T) ?_ ?_),(bf (qY T) ?_ ?_),(bf (wz T) ?_ ?_),(bf (nV T) ?_ ?_),Nc,(bf (qd T) ?_ ?_),(As ?_),(Ar ?_ ?_ ?_),oU)
noncomputable abbrev Yn:List Str:=["self","entry","side"]
theorem O9:aq Yn ["self","entry"] (ak WR):=fR
noncomputable def HZ:Fn:=dN Yn (ao (bh 2 (aR "Match" "side_to_start" 2 Dl (aa 0) (af (ai aL (aa 1) (mC (.int 1))) aj)))
   (dW (pR DY sH (bB ["Match"] "played" (aa 0)) (af (yt "Innings" 5 UI (af (aa 2) (af (ai aL (aa 1) (mC (.int 2))) (af (ai aL (aa 1) (mC (.int 3))) (af (ai aL (aa 1) (mC (.int 4))) aj))))) aj))))
theorem ac6 (T:Txt K mg a):aQ P w K mg base eF 7 a.yS a.vp ["self","entry"] (dU K (aF a) 2 HZ):=
 aT T.Og.F O9 λ_ _ _ _ _ _=>(by have:=O9.nd;exists (bN (aB T) (HE T) (OS T) (by decide) T.HA.b aG ?_ ?_),(oR zaY zbu zbv ni kG ?_ ?_),(aE (jY T) ?_),(G6 (c:= "Innings") (FG T) (ajs T) (by decide) (Dd T) T.ai8.b aG ?_))
noncomputable abbrev Yo:List Str:=["rules","kind","runs","wide","noball"]
theorem O_:aq Yo ["rules","kind","runs"] (ak WS):=fR
noncomputable def H_:Fn:=dN Yo (ao (cy (mB (ai (bY false) (aa 1) (mC (.str "bat"))))
   (aD (cL (af (aa 2) (af (mC (.int 0)) (af (aa 2) aj)))))
   ay)
   (ao (cy (mB (ai (bY false) (aa 1) (mC (.str "wide"))))
   (ao (bh 3 (ai cO (ai aL (aa 0) (mC (.int 3))) (aa 2)))
   (aD (cL (af (mC (.int 0)) (af (aa 3) (af (aa 3) aj))))))
   ay)
   (ao (bh 4 (ai aL (aa 0) (mC (.int 4))))
   (ao (cy (mB (ai (bY false) (aa 1) (mC (.str "no"))))
   (aD (cL (af (aa 2) (af (aa 4) (af (ai cO (aa 4) (aa 2)) aj)))))
   ay)
   (ao (cy (mB (ai (bY false) (aa 1) (mC (.str "nobye"))))
   (aD (cL (af (mC (.int 0)) (af (ai cO (aa 4) (aa 2)) (af (aa 4) aj)))))
   ay)
   (aD (cL (af (mC (.int 0)) (af (aa 2) (af (mC (.int 0)) aj))))))))))
theorem ac7 (T:Txt K mg a):aQ P w K mg base eF 2 a.Cy a.vq ["rules","kind","runs"] (dU K (aF a) 3 H_):=
 aT T.Xv.F O_ λ_ _ _ _ _ _=>(by have:=O_.nd;exists (cg T.J7),(cg T.C8))
noncomputable abbrev Yp:List Str:=["rules","entry","kind","runs","by","fair","faced","crossed","credited"]
theorem Pa:aq Yp ["rules","entry"] (ak WT):=fR
noncomputable def Dm:Fn:=dN Yp (ao (bh 2 (ai aL (aa 1) (mC (.int 1))))
   (ao (bh 3 (ai aL (aa 1) (mC (.int 2))))
   (ao (bh 4 (dM 3 H_ (af (aa 0) (af (aa 2) (af (aa 3) aj)))))
   (ao (bh 5 (ai (uv false) (aa 2) (cL (af (mC (.str "bat")) (af (mC (.str "bye")) (af (mC (.str "leg")) aj))))))
   (ao (bh 6 (ai (bY true) (aa 2) (mC (.str "wide"))))
   (ao (bh 7 (i8 (ai (bY false) (ai qN (aa 3) (mC (.int 2))) (mC (.int 1))) (JD (ai aL (aa 1) (mC (.int 3))))))
   (ao (bh 8 (ai (uv true) (ai aL (aa 1) (mC (.int 4))) (cL (af (mC (.str "")) (af (mC (.str "run")) aj)))))
   (aD (ai cO (ai cO (cL (af (ai cO (ai aL (aa 4) (mC (.int 0))) (ai aL (aa 4) (mC (.int 1)))) aj)) (aa 4)) (cL (af (aa 5) (af (aa 6) (af (aa 7) (af (aa 8) aj))))))))))))))
theorem Pb (T:Txt K mg a):aQ P w K mg base eF 3 a.Cz a.vz ["rules","entry"] (dU K (aF a) 2 Dm):=
 aT T.Oh.F Pa λ_ _ _ _ _ _=>(by have:=Pa.nd;exists (cJ (ac7 T) T.Xv ?_),(iJ xB ?_ ?_ (by with_unfolding_all rfl)),(E4 ?_),(iJ BY ?_ ?_ (by with_unfolding_all rfl)))
noncomputable abbrev ajt:List Str:=["self","entry"]
theorem Yq:aq ajt ["self","entry"] (ak aiZ):=fR
noncomputable def UJ:Fn:=dN ajt (ao (cy (mB (ai (bY false) (ai aL (aa 1) (mC (.int 4))) (mC (.str "run"))))
   (aD (ai aL (aa 1) (mC (.int 5))))
   ay)
   (aD (DW (mB (ai (bY false) (ai aL (aa 1) (mC (.int 4))) (mC (.str "")))) (mC (.str "")) (bB ["Innings"] "facing" (aa 0)))))
theorem aju (T:Txt K mg a):aQ P w K mg base eF 2 a.JT a.CZ ["self","entry"] (dU K (aF a) 2 UJ):=
 aT T.acA.F Yq λ_ _ _ _ _ _=>(by have:=Yq.nd;exists (aE (iQ T) ?_))
noncomputable abbrev ajv:List Str:=["self","facing"]
theorem Yr:aq ajv ["self"] (ak ai0):=fR
noncomputable def Kc:Fn:=dN ajv (ao (bh 1 (bB ["Innings"] "facing" (aa 0)))
   (ao (cC ["Innings"] "facing" (aa 0) (bB ["Innings"] "other" (aa 0)))
   (cC ["Innings"] "other" (aa 0) (aa 1))))
theorem Pc (T:Txt K mg a):aQ P w K mg base eF 2 a.JU a.C0 ["self"] (dU K (aF a) 1 Kc):=
 aT T.Oi.F Yr λ_ _ _ _ _ _=>(by have:=Yr.nd;exists (aE (iQ T) ?_),(bf (iQ T) ?_ ?_),(aE (nA T) ?_),(bf (nA T) ?_ ?_))
noncomputable abbrev ajw:List Str:=["self","name"]
theorem Ys:aq ajw ["self","name"] (ak ai1):=fR
noncomputable def Pd:Fn:=dN ajw (cy (mB (ai (bY false) (bB ["Innings"] "facing" (aa 0)) (aa 1)))
   (cC ["Innings"] "facing" (aa 0) (mC (.str "")))
   (cC ["Innings"] "other" (aa 0) (mC (.str ""))))
theorem Yt (T:Txt K mg a):aQ P w K mg base eF 2 a.JV a.C1 ["self","name"] (dU K (aF a) 2 Pd):=
 aT T.Uo.F Ys λ_ _ _ _ _ _=>(by have:=Ys.nd;exists (aE (iQ T) ?_),(bf (iQ T) ?_ ?_),(bf (nA T) ?_ ?_))
noncomputable abbrev ajx:List Str:=["self","name","end","empty"]
theorem Yu:aq ajx ["self","name","end"] (ak ai2):=fR
noncomputable def UK:Fn:=dN ajx (ao (oH (bB ["Innings"] "outs" (aa 0)) (aa 1) (mC (.bl true)))
   (ao (yq ["Innings"] "wickets" (λi j=>i+j) (aa 0) (mC (.int 1)))
   (ao (dW (aR "Innings" "leave" 2 Pd (aa 0) (af (aa 1) aj)))
   (ao (bh 3 (DW (mB (ai (bY false) (bB ["Innings"] "facing" (aa 0)) (mC (.str "")))) (mC (.str "strike")) (mC (.str "other"))))
   (cy (mB (ai (bY true) (aa 3) (aa 2)))
   (dW (aR "Innings" "change_ends" 1 Kc (aa 0) aj))
   ay)))))
theorem ajy (T:Txt K mg a):aQ P w K mg base eF 3 a.JW a.C2 ["self","name","end"] (dU K (aF a) 3 UK):=
 aT T.acB.F Yu λ_ _ _ _ _ _=>(by have:=Yu.nd;exists (Aj ?_ ?_ ?_),(aE (nV T) ?_),(sS sU (FH T) ?_ ?_),(bN (aU T) (OD T) (Yt T) (by decide) T.Uo.b aG ?_ ?_),(aE (iQ T) ?_),(aW (aU T) (FP T) (Pc T) (by decide) T.Oi.b aG ?_))
noncomputable abbrev ajz:List Str:=["self","over"]
theorem Yv:aq ajz ["self","over"] (ak ai3):=fR
noncomputable def UL:Fn:=dN ajz (ao (yq ["Innings"] "balls" (λi j=>i+j) (aa 0) (mC (.int 1)))
   (cy (mB (ai gGe (bB ["Innings"] "balls" (aa 0)) (aa 1)))
   (ao (yq ["Innings"] "overs" (λi j=>i+j) (aa 0) (mC (.int 1)))
   (ao (cC ["Innings"] "balls" (aa 0) (mC (.int 0)))
   (ao (dW (aR "Innings" "change_ends" 1 Kc (aa 0) aj))
   (ao (cC ["Innings"] "ahead" (aa 0) (bB ["Innings"] "bowler" (aa 0)))
   (cC ["Innings"] "bowler" (aa 0) (mC (.str "")))))))
   ay))
theorem ajA (T:Txt K mg a):aQ P w K mg base eF 3 a.JX a.C3 ["self","over"] (dU K (aF a) 2 UL):=
 aT T.acC.F Yv λ_ _ _ _ _ _=>(by have:=Yv.nd;exists (sS sU (qY T) ?_ ?_),(aE (qY T) ?_),(sS sU (wu T) ?_ ?_),(bf (qY T) ?_ ?_),(aW (aU T) (FP T) (Pc T) (by decide) T.Oi.b aG ?_),(bf (wo T) ?_ ?_),(aE (lK T) ?_),(bf (lK T) ?_ ?_))
noncomputable abbrev Yw:List Str:=["self","rules","entry","sums","out"]
theorem Pe:aq Yw ["self","rules","entry"] (ak WU):=fR
noncomputable def Ia:Fn:=dN Yw (ao (bh 3 (dM 2 Dm (af (aa 1) (af (aa 2) aj))))
   (ao (bh 4 (aR "Innings" "out_by" 2 UJ (aa 0) (af (aa 2) aj)))
   (ao (yq ["Innings"] "total" (λi j=>i+j) (aa 0) (ai aL (aa 3) (mC (.int 0))))
   (ao (cy (mB (ai aL (aa 3) (mC (.int 6))))
   (dW (aR "Innings" "change_ends" 1 Kc (aa 0) aj))
   ay)
   (ao (cy (mB (ai (bY true) (aa 4) (mC (.str ""))))
   (dW (aR "Innings" "fall" 3 UK (aa 0) (af (aa 4) (af (DW (mB (ai (bY false) (ai aL (aa 2) (mC (.int 4))) (mC (.str "run")))) (ai aL (aa 2) (mC (.int 6))) (mC (.str "strike"))) aj))))
   ay)
   (ao (cy (mB (ai aL (aa 3) (mC (.int 4))))
   (dW (aR "Innings" "count_fair" 2 UL (aa 0) (af (ai aL (aa 1) (mC (.int 0))) aj)))
   ay)
   (aD (aa 4))))))))
theorem ac8 (T:Txt K mg a):aQ P w K mg base eF 4 a.yT a.vA ["self","rules","entry"] (dU K (aF a) 3 Ia):=
 aT T.Oj.F Pe λ_ _ _ _ _ _=>(by have:=Pe.nd;exists (cJ (Pb T) T.Oh ?_),(bN (aU T) (acI T) (aju T) (by decide) T.acA.b aG ?_ ?_),(sS sU (AQ T) ?_ ?_),(cg T.C9),(cg T.AO),(aW (aU T) (FP T) (Pc T) (by decide) T.Oi.b aG ?_),(bN (aU T) (acJ T) (ajy T) (by decide) T.acB.b aG ?_ ?_),(cg T.J1),(bN (aU T) (acK T) (ajA T) (by decide) T.acC.b aG ?_ ?_),(cg T.J5))
noncomputable abbrev Yx:List Str:=["self","entry","going","ahead","out"]
theorem Pf:aq Yx ["self","entry"] (ak WV):=fR
noncomputable def Ib:Fn:=dN Yx (ao (bh 2 (aR "Match" "going" 1 jr (aa 0) aj))
   (ao (bh 3 (cL (af (ai dJ (bL iM (af (bB ["Match"] "played" (aa 0)) aj)) (mC (.int 1))) (af (bB ["Innings"] "overs" (aa 2)) (af (bB ["Innings"] "balls" (aa 2)) (af (bB ["Innings"] "facing" (aa 2)) (af (bB ["Innings"] "other" (aa 2)) (af (bB ["Innings"] "bowler" (aa 2)) aj))))))))
   (ao (bh 4 (aR "Innings" "play" 3 Ia (aa 2) (af (bB ["Match"] "rules" (aa 0)) (af (aa 1) aj))))
   (dW (pR DY sH (bB ["Match"] "balls_told" (aa 0)) (af (ai cO (aa 3) (cL (af (aa 1) (af (aa 4) aj)))) aj))))))
theorem ac9 (T:Txt K mg a):aQ P w K mg base eF 5 a.yU a.vD ["self","entry"] (dU K (aF a) 2 Ib):=
 aT T.Ol.F Pf λ_ _ _ _ _ _=>(by have:=Pf.nd;exists (aW (aB T) (gh T) (iR T) (by decide) T.jR.b aG ?_),(dz kF T.kH zaZ ?_),(aE (jY T) ?_),(aE (wu T) ?_),(aE (qY T) ?_),(aE (iQ T) ?_),(aE (nA T) ?_),(aE (lK T) ?_),(bN (aU T) (Uw T) (ac8 T) (by decide) T.Oj.b aG ?_ ?_),(aE (qZ T) ?_),(oR zaY zbu zbv ni kG ?_ ?_),(aE (FL T) ?_))
noncomputable abbrev ajB:List Str:=["self","name"]
theorem Yy:aq ajB ["self","name"] (ak ai4):=fR
noncomputable def UM:Fn:=dN ajB (cy (mB (ai (bY false) (bB ["Innings"] "facing" (aa 0)) (mC (.str ""))))
   (cC ["Innings"] "facing" (aa 0) (aa 1))
   (cC ["Innings"] "other" (aa 0) (aa 1)))
theorem ajC (T:Txt K mg a):aQ P w K mg base eF 2 a.JY a.C4 ["self","name"] (dU K (aF a) 2 UM):=
 aT T.acD.F Yy λ_ _ _ _ _ _=>(by have:=Yy.nd;exists (aE (iQ T) ?_),(bf (iQ T) ?_ ?_),(bf (nA T) ?_ ?_))
noncomputable abbrev ajD:List Str:=["self","name"]
theorem Yz:aq ajD ["self","name"] (ak ai5):=fR
noncomputable def UN:Fn:=dN ajD (ao (cC ["Innings"] "bowler" (aa 0) (aa 1))
   (oH (bB ["Innings"] "spells" (aa 0)) (aa 1) (ai cO (G7 (bB ["Innings"] "spells" (aa 0)) (aa 1) (mC (.int 0))) (mC (.int 1)))))
theorem ajE (T:Txt K mg a):aQ P w K mg base eF 2 a.JZ a.C5 ["self","name"] (dU K (aF a) 2 UN):=
 aT T.acE.F Yz λ_ _ _ _ _ _=>(by have:=Yz.nd;exists (bf (lK T) ?_ ?_),(Aj ?_ ?_ ?_),(aE (qd T) ?_),(G8 ?_ ?_ ?_))
noncomputable abbrev YA:List Str:=["players","old","new"]
theorem Pg:aq YA ["players","old","new"] (ak NZ):=fR
noncomputable def Ic:Fn:=dN YA (aD (gx (qS iL (aa 0)) [2,1] 1 (bD 2) iX (DW (mB (ai (bY false) (aa 2) (aa 1))) (aa 0) (aa 2))))
theorem ada (T:Txt K mg a):aQ P w K mg base eF 2 a.CA a.vE ["players","old","new"] (dU K (aF a) 3 Ic):=
 aT T.Xw.F Pg λ_ _ _ _ _ _=>(by have:=Pg.nd;exists (ie (F:=["new","old"]) (T:=["name"]) (fr:=[2,1]) (Ht NZ (by decide +kernel)) ?_ (λ_ _ _ _ _=>?_) (λ_ _ _ _ _=>?_) (λ_ _ _ _ _=>?_)),(d9 2 (show (["new","old","name"]:List Str).Nodup by decide +kernel)))
noncomputable abbrev YB:List Str:=["told","old","new"]
theorem Ph:aq YB ["told","old","new"] (ak N1):=fR
noncomputable def Dn:Fn:=dN YB (aD (bL AK (af (gx (qS iD (aa 0)) [2,0,1] 1 (bD 3) iX (cL (af (DW (mB (ai (bY false) (aa 3) (aa 2))) (aa 0) (aa 3)) (af (ai uK (aa 1) (aa 3)) aj)))) aj)))
theorem adb (T:Txt K mg a):aQ P w K mg base eF 2 a.CB a.vF ["told","old","new"] (dU K (aF a) 3 Dn):=
 aT T.Xx.F Ph λ_ _ _ _ _ _=>(by have:=Ph.nd;exists (cI Ul T.acz PyProof.Rows.boot_dict ?_),(ie (F:=["new","told","old"]) (T:=["name"]) (fr:=[2,0,1]) (Ht N1 (by decide +kernel)) ?_ (λ_ _ _ _ _=>?_) (λ_ _ _ _ _=>?_) (λ_ _ _ _ _=>?_)),(Hr ?_),(d9 3 (show (["new","told","old","name"]:List Str).Nodup by decide +kernel)),(NP ?_ ?_))
noncomputable abbrev YC:List Str:=["self","old","new"]
theorem Pj:aq YC ["self","old","new"] (ak WW):=fR
noncomputable def Ie:Fn:=dN YC (ao (cC ["Innings"] "outs" (aa 0) (dM 3 Dn (af (bB ["Innings"] "outs" (aa 0)) (af (aa 1) (af (aa 2) aj)))))
   (ao (cC ["Innings"] "spells" (aa 0) (dM 3 Dn (af (bB ["Innings"] "spells" (aa 0)) (af (aa 1) (af (aa 2) aj)))))
   (cy (mB (ai (bY false) (bB ["Innings"] "ahead" (aa 0)) (aa 1)))
   (cC ["Innings"] "ahead" (aa 0) (aa 2))
   ay)))
theorem ade (T:Txt K mg a):aQ P w K mg base eF 3 a.yV a.vG ["self","old","new"] (dU K (aF a) 3 Ie):=
 aT T.Om.F Pj λ_ _ _ _ _ _=>(by have:=Pj.nd;exists (bf (nV T) ?_ ?_),(cJ (adb T) T.Xx ?_),(aE (nV T) ?_),(bf (qd T) ?_ ?_),(aE (qd T) ?_),(aE (wo T) ?_),(bf (wo T) ?_ ?_))
noncomputable abbrev YD:List Str:=["self","old","new","going"]
theorem Pk:aq YD ["self","old","new"] (ak N2):=fR
noncomputable def Ig:Fn:=dN YD (ao (dW (pR DY sH (bB ["Match"] "known" (aa 0)) (af (aa 2) aj)))
   (ao (cC ["Match"] "sides" (aa 0) (gx (qS iL (bB ["Match"] "sides" (aa 0))) [1,2] 2 (jM 2 (cY (bD 2) (cY (bD 3) oS))) iX (cL (af (aa 2) (af (dM 3 Ic (af (aa 3) (af (aa 0) (af (aa 1) aj)))) aj)))))
   (ao (bh 3 (aR "Match" "going" 1 jr (aa 0) aj))
   (cy (mB (ai (i9 true) (aa 3) (mC .bz)))
   (dW (aR "Innings" "rename" 3 Ie (aa 3) (af (aa 1) (af (aa 2) aj))))
   ay))))
theorem adf (T:Txt K mg a):aQ P w K mg base eF 4 a.yW a.vH ["self","old","new"] (dU K (aF a) 3 Ig):=
 aT T.Oo.F Pk λ_ _ _ _ _ _=>(by have:=Pk.nd;exists (oR zaY zbu zbv ni kG ?_ ?_),(aE (FI T) ?_),(bf (jq T) ?_ ?_),(ie (F:=["old","new"]) (T:=["name","players"]) (fr:=[1,2]) (Ht N2 (by decide +kernel)) ?_ (λ_ _ _ _ _=>?_) (λ_ _ _ _ _=>?_) (λ_ _ _ _ _=>?_)),(aE (jq T) ?_),(lC (n:=2) ?_),(d9 2 (show (["old","new","name","players"]:List Str).Nodup by decide +kernel)),(d9 3 (show (["old","new","name","players"]:List Str).Nodup by decide +kernel)),(cJ (ada T) T.Xw ?_),(aW (aB T) (gh T) (iR T) (by decide) T.jR.b aG ?_),(bN (aU T) (Uy T) (ade T) (by decide) T.Om.b aG ?_ ?_))
noncomputable abbrev YE:List Str:=["self","going"]
theorem Pn:aq YE ["self"] (ak WX):=fR
noncomputable def Ih:Fn:=dN YE (ao (cC ["Match"] "closed" (aa 0) (mC (.bl true)))
   (ao (bh 1 (aR "Match" "going" 1 jr (aa 0) aj))
   (cy (mB (ai (i9 true) (aa 1) (mC .bz)))
   (cC ["Innings"] "ending" (aa 1) (mC (.str "closed")))
   ay)))
theorem adg (T:Txt K mg a):aQ P w K mg base eF 3 a.yX a.vI ["self"] (dU K (aF a) 1 Ih):=
 aT T.Oq.F Pn λ_ _ _ _ _ _=>(by have:=Pn.nd;exists (bf (FJ T) ?_ ?_),(aW (aB T) (gh T) (iR T) (by decide) T.jR.b aG ?_),(bf (wz T) ?_ ?_))
noncomputable abbrev YF:List Str:=["self","entry","going","word"]
theorem Po:aq YF ["self","entry"] (ak WY):=fR
noncomputable def wB:Fn:=dN YF (ao (bh 2 (aR "Match" "going" 1 jr (aa 0) aj))
   (ao (bh 3 (ai aL (aa 1) (mC (.int 0))))
   (cy (mB (ai (bY false) (aa 3) (mC (.str "start"))))
   (dW (aR "Match" "begin" 2 HZ (aa 0) (af (aa 1) aj)))
   (cy (mB (ai (bY false) (aa 3) (mC (.str "ball"))))
   (dW (aR "Match" "play_ball" 2 Ib (aa 0) (af (aa 1) aj)))
   (cy (mB (ai (bY false) (aa 3) (mC (.str "in"))))
   (dW (aR "Innings" "come_in" 2 UM (aa 2) (af (ai aL (aa 1) (mC (.int 1))) aj)))
   (cy (mB (ai (bY false) (aa 3) (mC (.str "bowl"))))
   (dW (aR "Innings" "bowl_next" 2 UN (aa 2) (af (ai aL (aa 1) (mC (.int 1))) aj)))
   (cy (mB (ai (bY false) (aa 3) (mC (.str "hurt"))))
   (dW (aR "Innings" "leave" 2 Pd (aa 2) (af (ai aL (aa 1) (mC (.int 1))) aj)))
   (cy (mB (ai (bY false) (aa 3) (mC (.str "swap"))))
   (dW (aR "Match" "swap_player" 3 Ig (aa 0) (af (ai aL (aa 1) (mC (.int 1))) (af (ai aL (aa 1) (mC (.int 2))) aj))))
   (cy (mB (ai (bY false) (aa 3) (mC (.str "declare"))))
   (cC ["Innings"] "ending" (aa 2) (mC (.str "declared")))
   (cy (mB (ai (bY false) (aa 3) (mC (.str "follow"))))
   (cC ["Match"] "followed" (aa 0) (mC (.bl true)))
   (dW (aR "Match" "close" 1 Ih (aa 0) aj))))))))))))
theorem adh (T:Txt K mg a):aQ P w K mg base eF 8 a.yY a.vJ ["self","entry"] (dU K (aF a) 2 wB):=
 aT T.Ot.F Po λ_ _ _ _ _ _=>(by have:=Po.nd;exists (aW (aB T) (gh T) (iR T) (by decide) T.jR.b aG ?_),(bN (aB T) (Uv T) (ac6 T) (by decide) T.Og.b aG ?_ ?_),(bN (aB T) (Ux T) (ac9 T) (by decide) T.Ol.b aG ?_ ?_),(bN (aU T) (acL T) (ajC T) (by decide) T.acD.b aG ?_ ?_),(bN (aU T) (acM T) (ajE T) (by decide) T.acE.b aG ?_ ?_),(bN (aU T) (OD T) (Yt T) (by decide) T.Uo.b aG ?_ ?_),(bN (aB T) (Uz T) (adf T) (by decide) T.Oo.b aG ?_ ?_),(bf (wz T) ?_ ?_),(bf (AR T) ?_ ?_),(aW (aB T) (UA T) (adg T) (by decide) T.Oq.b aG ?_))
noncomputable abbrev ajF:List Str:=["self","players"]
theorem YG:aq ajF ["self","players"] (ak acw):=fR
noncomputable def UO:Fn:=dN ajF (aD (bL SM (af (gx (qS iL (aa 1)) [0] 1 (bD 1) iX (i8 (ai (BZ true) (aa 1) (bB ["Innings"] "outs" (aa 0))) (JD (aR "Innings" "stands" 2 qf (aa 0) (af (aa 1) aj))))) aj)))
theorem ajG (T:Txt K mg a):aQ P w K mg base eF 3 a.J0 a.C6 ["self","players"] (dU K (aF a) 2 UO):=
 aT T.acF.F YG λ_ _ _ _ _ _=>(by have:=YG.nd;exists (dz ahK T.ai6 PyProof.Rows.boot_any ?_),(ie (F:=["self"]) (T:=["name"]) (fr:=[0]) (Ht acw (by decide +kernel)) ?_ (λ_ _ _ _ _=>?_) (λ_ _ _ _ _=>?_) (λ_ _ _ _ _=>?_)),(d9 1 (show (["self","name"]:List Str).Nodup by decide +kernel)),(SG ?_ ?_),(aE (nV T) ?_),(E4 ?_),(bN (aU T) (nX T) (q8 T) (by decide) T.rY.b aG ?_ ?_))
noncomputable abbrev YH:List Str:=["self","going"]
theorem Pp:aq YH ["self","going"] (ak WZ):=fR
noncomputable def Ii:Fn:=dN YH (ao (cy (mD (mB (ai (bY false) (bL iM (af (bB ["Match"] "played" (aa 0)) aj)) (aR "Match" "most_innings" 1 wA (aa 0) aj))) (mB (ai gGt (aR "Match" "lead_of" 2 zh (aa 0) (af (bB ["Innings"] "side" (aa 1)) aj)) (mC (.int 0)))))
   (aD (mC (.str "won")))
   ay)
   (ao (cy (mD (mB (aR "Innings" "has_gap" 1 Ka (aa 1) aj)) (xy (mB (aR "Innings" "has_left" 2 UO (aa 1) (af (ai aL (ai aL (bB ["Match"] "sides" (aa 0)) (bB ["Innings"] "side" (aa 1))) (mC (.int 1))) aj)))))
   (aD (mC (.str "out")))
   ay)
   (aD (DW (mB (m_ V9 gLe (mC (.int 0)) (ai aL (bB ["Match"] "rules" (aa 0)) (mC (.int 1))) (bB ["Innings"] "overs" (aa 1)))) (mC (.str "overs")) (mC (.str ""))))))
theorem adi (T:Txt K mg a):aQ P w K mg base eF 4 a.yZ a.vK ["self","going"] (dU K (aF a) 2 Ii):=
 aT T.Ou.F Pp λ_ _ _ _ _ _=>(by have:=Pp.nd;exists (dz kF T.kH zaZ ?_),(aE (jY T) ?_),(aW (aB T) (AS T) (FQ T) (by decide) T.C_.b aG ?_),(bN (aB T) (AU T) (FT T) (by decide) T.Dc.b aG ?_ ?_),(aE (ny T) ?_),(aW (aU T) (FO T) (OZ T) (by decide) T.Oe.b aG ?_),(bN (aU T) (acN T) (ajG T) (by decide) T.acF.b aG ?_ ?_),(aE (jq T) ?_),(BU MU MV ?_ ?_ ?_),(aE (qZ T) ?_),(cg T.FE),(aE (wu T) ?_))
noncomputable abbrev YI:List Str:=["self","entry","rule","going"]
theorem Pq:aq YI ["self","entry"] (ak W0):=fR
noncomputable def r_:Fn:=fnX YI (ao (bh 2 (aR "Match" "refusal" 2 r9 (aa 0) (af (aa 1) aj)))
   (ao (cy (mB (ai (i9 true) (aa 2) (mC .bz)))
   (Az "NotLet" 3 (gT2 "rule" "number") [.int 0] (af (fJ [(mC (.str "the rules don't let this entry: ")),(abn (aa 2))] Str.empty) (af (aa 2) aj)))
   ay)
   (ao (dW (aR "Match" "do" 2 wB (aa 0) (af (aa 1) aj)))
   (ao (bh 3 (aR "Match" "going" 1 jr (aa 0) aj))
   (cy (mB (ai (i9 true) (aa 3) (mC .bz)))
   (cC ["Innings"] "ending" (aa 3) (aR "Match" "ending_due" 2 Ii (aa 0) (af (aa 3) aj)))
   ay)))))
theorem adj (T:Txt K mg a):aQ P w K mg base (xj P w) 9 a.y9 a.vL ["self","entry"] (dU K (aF a) 2 r_):=
 abA T.Ov.F Pq λ_ _ _ _ _ _=>(by have:=Pq.nd;exists (bN (aB T) (Uu T) (ac5 T) (by decide) T.Of.b aG ?_ ?_),(Nk (c:= "NotLet") (n:=3) (g:=gE2 "rule" "number") (gT:=gT2 "rule" "number") (Hi:=[.int 0]) (nK:=[.int 0]) (zg T) (o4 T) (by decide) (FN T) T.zf (.cons ⟨_,rfl⟩ .nil) (λ_=>.cons eV .nil) gR2 ?_),(To ?_),(Tn ?_ ?_),(abo ?_),abp,(bN (aB T) (UB T) (adh T) (by decide) T.Ot.b aG ?_ ?_),(aW (aB T) (gh T) (iR T) (by decide) T.jR.b aG ?_),(bf (wz T) ?_ ?_),(bN (aB T) (UC T) (adi T) (by decide) T.Ou.b aG ?_ ?_))
noncomputable abbrev YJ:List Str:=["self","going","who"]
theorem Pr:aq YJ ["self"] (ak W2):=fR
noncomputable def Ij:Fn:=rQ (dN YJ (ao (bh 1 (aR "Match" "going" 1 jr (aa 0) aj))
   (ao (cy (mB (ai (i9 false) (aa 1) (mC .bz)))
   (aD (mC .bz))
   ay)
   (ao (bh 2 (cL (af (ai aL (ai aL (bB ["Match"] "sides" (aa 0)) (bB ["Innings"] "side" (aa 1))) (mC (.int 0))) (af (bB ["Innings"] "facing" (aa 1)) (af (bB ["Innings"] "other" (aa 1)) (af (bB ["Innings"] "bowler" (aa 1)) aj))))))
   (aD (ai cO (aa 2) (cL (af (bB ["Innings"] "total" (aa 1)) (af (bB ["Innings"] "wickets" (aa 1)) (af (bB ["Innings"] "overs" (aa 1)) (af (bB ["Innings"] "balls" (aa 1)) aj)))))))))))
theorem adk (T:Txt K mg a):aQ P w K mg base eF 3 a.y_ a.vM ["self"] (dU K (aF a) 1 Ij):=
 aQ.pure (aT T.Ow.F Pr λ_ _ _ _ _ _=>(by have:=Pr.nd;exists (aW (aB T) (gh T) (iR T) (by decide) T.jR.b aG ?_),(aE (jq T) ?_),(aE (ny T) ?_),(aE (iQ T) ?_),(aE (nA T) ?_),(aE (lK T) ?_),(aE (AQ T) ?_),(aE (FH T) ?_),(aE (wu T) ?_),(aE (qY T) ?_)))
noncomputable abbrev YK:List Str:=["self"]
theorem Pu:aq YK ["self"] (ak N3):=fR
noncomputable def Dp:Fn:=dN YK (aD (gx (qS iL (bB ["Match"] "sides" (aa 0))) [] 2 (jM 2 (cY (bD 0) (cY (bD 1) oS))) iX (cL (af (aa 0) (af (bL pQ (af (aa 1) aj)) aj)))))
theorem Pw (T:Txt K mg a):aQ P w K mg base eF 2 a.zc a.vN ["self"] (dU K (aF a) 1 Dp):=
 aT T.HB.F Pu λ_ _ _ _ _ _=>(by have:=Pu.nd;exists (ie (F:=[]) (T:=["name","players"]) (fr:=[]) (Ht N3 (by decide +kernel)) ?_ (λ_ _ _ _ _=>?_) (λ_ _ _ _ _=>?_) (λ_ _ _ _ _=>?_)),(aE (jq T) ?_),(lC (n:=2) ?_),(d9 0 (show (["name","players"]:List Str).Nodup by decide +kernel)),(d9 1 (show (["name","players"]:List Str).Nodup by decide +kernel)),(cI qR T.lJ zaT ?_))
noncomputable abbrev YL:List Str:=["self","side"]
theorem Px:aq YL ["self"] (ak W3):=fR
noncomputable def zj:Fn:=dN YL (ao (bh 1 (aR "Match" "next_side" 1 Di (aa 0) aj))
   (aD (DW (mB (ai (i9 false) (aa 1) (mC .bz))) (mC (.str "")) (ai aL (ai aL (bB ["Match"] "sides" (aa 0)) (aa 1)) (mC (.int 0))))))
theorem adl (T:Txt K mg a):aQ P w K mg base eF 6 a.zd a.vO ["self"] (dU K (aF a) 1 zj):=
 aT T.Ox.F Px λ_ _ _ _ _ _=>(by have:=Px.nd;exists (aW (aB T) (HD T) (OR T) (by decide) T.Hz.b aG ?_),(aE (jq T) ?_))
noncomputable abbrev YM:List Str:=["_law_draw","_law_match","_law_players","_law_at","_law_one","_law_other","_law_k"]
theorem FW:aq YM ["_law_draw","_law_match"] (ak W4):=fR
noncomputable def Ik:Fn:=dN YM (ao (bh 2 (aR "Match" "players" 1 Dp (aa 1) aj))
   (ao (cy (mB (ai (bY false) (dM 2 bM (af (aa 0) (af (mC (.int 4)) aj))) (mC (.int 0))))
   (aD (cL (af (mC (.str "follow")) aj)))
   ay)
   (ao (bh 3 (dM 2 bM (af (aa 0) (af (mC (.int 2)) aj))))
   (ao (cy (mB (ai (bY true) (aR "Match" "turn" 1 zj (aa 1) aj) (mC (.str ""))))
   (bh 3 (bL mE (af (ai (bY false) (aR "Match" "turn" 1 zj (aa 1) aj) (ai aL (ai aL (aa 2) (mC (.int 1))) (mC (.int 0)))) aj)))
   ay)
   (ao (SX 4 5 (af (ai aL (ai aL (aa 2) (aa 3)) (mC (.int 1))) (af (ai aL (ai aL (aa 2) (ai dJ (mC (.int 1)) (aa 3))) (mC (.int 1))) aj)))
   (ao (bh 6 (dM 2 bM (af (aa 0) (af (bL iM (af (aa 4) aj)) aj))))
   (aD (cL (af (mC (.str "start")) (af (ai aL (ai aL (aa 2) (aa 3)) (mC (.int 0))) (af (ai aL (aa 4) (aa 6)) (af (ai aL (aa 4) (ai qN (ai cO (aa 6) (mC (.int 1))) (bL iM (af (aa 4) aj)))) (af (ai aL (aa 5) (dM 2 bM (af (aa 0) (af (bL iM (af (aa 5) aj)) aj)))) aj)))))))))))))
theorem adm (T:Txt K mg a):aQ P w K mg base eF 7 a.CD a.vP ["_law_draw","_law_match"] (dU K (aF a) 2 Ik):=
 aT T.Xy.F FW λ_ _ _ _ _ _=>(by have:=FW.nd;exists (aW (aB T) (HF T) (Pw T) (by decide) T.HB.b aG ?_),(cJ (o5 T) T.rX ?_),(aW (aB T) (UG T) (adl T) (by decide) T.Ox.b aG ?_),(cI yo T.wm zbp ?_),(M8 (i:=4) (j:=5) FW.nd rfl rfl (by decide) rfl rfl ?_ rfl),(dz kF T.kH zaZ ?_))
noncomputable abbrev YN:List Str:=["_law_draw","_law_two","_law_kind","_law_runs","_law_way","_law_rope"]
theorem Py:aq YN ["_law_draw","_law_two"] (ak W5):=fR
noncomputable def Il:Fn:=dN YN (ao (bh 2 (ai aL (kr (af (mC (.str "bat")) (af (mC (.str "bat")) (af (mC (.str "bat")) (af (mC (.str "bye")) (af (mC (.str "leg")) (af (mC (.str "wide")) (af (mC (.str "no")) (af (mC (.str "nobye")) aj))))))))) (dM 2 bM (af (aa 0) (af (mC (.int 8)) aj)))))
   (ao (bh 3 (ai aL (kr (af (mC (.int 0)) (af (mC (.int 0)) (af (mC (.int 1)) (af (mC (.int 1)) (af (mC (.int 2)) (af (mC (.int 3)) (af (mC (.int 4)) (af (mC (.int 4)) (af (mC (.int 6)) (af (mC (.int 6)) (af (mC (.int 5)) (af (mC (.int 9)) aj))))))))))))) (dM 2 bM (af (aa 0) (af (mC (.int 12)) aj)))))
   (ao (bh 4 (dM 2 bM (af (aa 0) (af (mC (.int 9)) aj))))
   (ao (cy (mB (ai (bY false) (aa 4) (mC (.int 0))))
   (aD (cL (af (mC (.str "ball")) (af (aa 2) (af (aa 3) (af (mC (.bl false)) (af (mC (.str "run")) (af (ai aL (aa 1) (dM 2 bM (af (aa 0) (af (mC (.int 2)) aj)))) (af (ai aL (kr (af (mC (.str "strike")) (af (mC (.str "other")) aj))) (dM 2 bM (af (aa 0) (af (mC (.int 2)) aj)))) aj)))))))))
   ay)
   (ao (cy (mD (mB (ai (bY false) (aa 4) (mC (.int 1)))) (mB (ai (bY false) (aa 2) (mC (.str "bat")))))
   (aD (cL (af (mC (.str "ball")) (af (aa 2) (af (mC (.int 0)) (af (mC (.bl false)) (af (ai aL (kr (af (mC (.str "bowled")) (af (mC (.str "caught")) (af (mC (.str "before")) (af (mC (.str "stumped")) (af (mC (.str "hit")) aj)))))) (dM 2 bM (af (aa 0) (af (mC (.int 5)) aj)))) (af (mC (.str "")) (af (mC (.str "")) aj)))))))))
   ay)
   (ao (cy (mD (mB (ai (bY false) (aa 4) (mC (.int 1)))) (mB (ai (bY false) (aa 2) (mC (.str "wide")))))
   (aD (cL (af (mC (.str "ball")) (af (aa 2) (af (mC (.int 0)) (af (mC (.bl false)) (af (ai aL (kr (af (mC (.str "stumped")) (af (mC (.str "hit")) aj))) (dM 2 bM (af (aa 0) (af (mC (.int 2)) aj)))) (af (mC (.str "")) (af (mC (.str "")) aj)))))))))
   ay)
   (ao (bh 5 (V8 (ai (bY false) (aa 3) (mC (.int 4))) (i8 (ai (bY false) (aa 3) (mC (.int 6))) (ai (uv false) (aa 2) (cL (af (mC (.str "bat")) (af (mC (.str "no")) aj)))))))
   (aD (cL (af (mC (.str "ball")) (af (aa 2) (af (aa 3) (af (i8 (aa 5) (ai gGt (dM 2 bM (af (aa 0) (af (mC (.int 4)) aj))) (mC (.int 0)))) (af (mC (.str "")) (af (mC (.str "")) (af (mC (.str "")) aj))))))))))))))))
theorem adn (T:Txt K mg a):aQ P w K mg base eF 3 a.CF a.vQ ["_law_draw","_law_two"] (dU K (aF a) 2 Il):=
 aT T.Xz.F Py λ_ _ _ _ _ _=>(by have:=Py.nd;exists (cJ (o5 T) T.rX ?_),(iJ xB ?_ ?_ (by with_unfolding_all rfl)))
noncomputable abbrev YO:List Str:=["_law_draw","_law_match","_law_state","_law_players","_law_at","_law_what","_law_old"]
theorem Pz:aq YO ["_law_draw","_law_match"] (ak W6):=fR
noncomputable def Dq:Fn:=dN YO (ao (bh 2 (aR "Match" "state" 1 Ij (aa 1) aj))
   (ao (cy (mB (ai (i9 false) (aa 2) (mC .bz)))
   (aD (dM 2 Ik (af (aa 0) (af (aa 1) aj))))
   ay)
   (ao (bh 3 (aR "Match" "players" 1 Dp (aa 1) aj))
   (ao (bh 4 (bL mE (af (ai (bY false) (ai aL (aa 2) (mC (.int 0))) (ai aL (ai aL (aa 3) (mC (.int 1))) (mC (.int 0)))) aj)))
   (ao (cy (EZ (mB (ai (bY false) (ai aL (aa 2) (mC (.int 1))) (mC (.str "")))) (mB (ai (bY false) (ai aL (aa 2) (mC (.int 2))) (mC (.str "")))))
   (aD (cL (af (mC (.str "in")) (af (ai aL (ai aL (ai aL (aa 3) (aa 4)) (mC (.int 1))) (dM 2 bM (af (aa 0) (af (bL iM (af (ai aL (ai aL (aa 3) (aa 4)) (mC (.int 1))) aj)) aj)))) aj))))
   ay)
   (ao (cy (mB (ai (bY false) (ai aL (aa 2) (mC (.int 3))) (mC (.str ""))))
   (aD (cL (af (mC (.str "bowl")) (af (ai aL (ai aL (ai aL (aa 3) (ai dJ (mC (.int 1)) (aa 4))) (mC (.int 1))) (dM 2 bM (af (aa 0) (af (bL iM (af (ai aL (ai aL (aa 3) (aa 4)) (mC (.int 1))) aj)) aj)))) aj))))
   ay)
   (ao (bh 5 (dM 2 bM (af (aa 0) (af (mC (.int 24)) aj))))
   (ao (cy (mB (ai (bY false) (aa 5) (mC (.int 0))))
   (aD (cL (af (mC (.str "hurt")) (af (ai aL (aa 2) (ai cO (mC (.int 1)) (dM 2 bM (af (aa 0) (af (mC (.int 2)) aj))))) aj))))
   ay)
   (ao (cy (mB (ai (bY false) (aa 5) (mC (.int 1))))
   (ao (bh 6 (ai aL (ai aL (ai aL (aa 3) (dM 2 bM (af (aa 0) (af (mC (.int 2)) aj)))) (mC (.int 1))) (dM 2 bM (af (aa 0) (af (bL iM (af (ai aL (ai aL (aa 3) (mC (.int 0))) (mC (.int 1))) aj)) aj)))))
   (aD (cL (af (mC (.str "swap")) (af (aa 6) (af (ai cO (mC (.str "wx")) (ai aL (mC (.str "abcdefghij")) (dM 2 bM (af (aa 0) (af (mC (.int 10)) aj))))) aj))))))
   ay)
   (ao (cy (mD (mB (ai (bY false) (aa 5) (mC (.int 2)))) (mB (ai (bY false) (dM 2 bM (af (aa 0) (af (mC (.int 3)) aj))) (mC (.int 0)))))
   (aD (cL (af (mC (.str "declare")) aj)))
   ay)
   (aD (dM 2 Il (af (aa 0) (af (kr (af (ai aL (aa 2) (mC (.int 1))) (af (ai aL (aa 2) (mC (.int 2))) aj))) aj))))))))))))))
theorem ado (T:Txt K mg a):aQ P w K mg base eF 8 a.CG a.vR ["_law_draw","_law_match"] (dU K (aF a) 2 Dq):=
 aT T.XA.F Pz λ_ _ _ _ _ _=>(by have:=Pz.nd;exists (aW (aB T) (UE T) (adk T) (by decide) T.Ow.b aG ?_),(cJ (adm T) T.Xy ?_),(aW (aB T) (HF T) (Pw T) (by decide) T.HB.b aG ?_),(cI yo T.wm zbp ?_),(cJ (o5 T) T.rX ?_),(dz kF T.kH zaZ ?_),(cJ (adn T) T.Xz ?_))
noncomputable abbrev YQ:List Str:=["_law_draw","_law_rules_here","_law_match","_law_k"]
theorem FY:aq YQ ["_law_draw"] (ak W7):=fR
noncomputable def Im:Fn:=dN YQ (ao (bh 1 (dM 1 HG (af (aa 0) aj)))
   (ao (bh 2 (yt "Match" 3 HH (af (aa 1) (af (dM 2 HJ (af (aa 0) (af (ai aL (aa 1) (mC (.int 5))) aj))) aj))))
   (ao (qT (yr (af (ai aL (kr (af (mC (.int 12)) (af (mC (.int 30)) (af (mC (.int 60)) (af (mC (.int 90)) aj))))) (dM 2 bM (af (aa 0) (af (mC (.int 4)) aj)))) aj)) (bD 3)
   (Hj "Match" "tell" 2 r_ (aa 2) (af (dM 2 Dq (af (aa 0) (af (aa 2) aj))) aj) ["NotLet"] none
   M6))
   (aD (kr (af (aa 1) (af (aa 2) aj)))))))
theorem adp (T:Txt K mg a):aQ P w K mg base eF 10 a.CH a.vS ["_law_draw"] (dU K (aF a) 1 Im):=
 aT T.XC.F FY λ_ _ _ _ _ _=>(by have:=FY.nd;exists (cJ (acP T) T.Xj ?_),(G6 (c:= "Match") (OB T) (acQ T) (by decide) (J9 T) T.Xk.b aG ?_),(cJ (acR T) T.Xl ?_),(nk zbM ?_ ?_ ?_),(Am T.AM ?_),(cJ (o5 T) T.rX ?_),(d9 3 FY.nd),(JM (c:= "Match") (T.gz.M.amU) (J_ T) (OC T) (aB T) (UD T) (adj T) (by decide) T.Ov.b ?_ ?_ (λ_=>?_)),(cJ (ado T) T.XA ?_),B5)
noncomputable abbrev YR:List Str:=["_law_draw","_law_log","_law_first"]
theorem PB:aq YR ["_law_draw","_law_log"] (ak W8):=fR
noncomputable def Io:Fn:=dN YR (ao (cy (mB (ai (bY false) (dM 2 bM (af (aa 0) (af (mC (.int 2)) aj))) (mC (.int 0))))
   (aD (bL pQ (af (aa 1) aj)))
   ay)
   (ao (bh 2 (dM 2 bM (af (aa 0) (af (ai cO (bL iM (af (aa 1) aj)) (mC (.int 1))) aj))))
   (aD (mSl Wb (aa 1) (ux (aa 2)) (ux (ai cO (aa 2) (dM 2 bM (af (aa 0) (af (ai cO (ai dJ (bL iM (af (aa 1) aj)) (aa 2)) (mC (.int 1))) aj)))))))))
theorem adq (T:Txt K mg a):aQ P w K mg base eF 3 a.CI a.vU ["_law_draw","_law_log"] (dU K (aF a) 2 Io):=
 aT T.XD.F PB λ_ _ _ _ _ _=>(by have:=PB.nd;exists (cJ (o5 T) T.rX ?_),(cI qR T.lJ zaT ?_),(dz kF T.kH zaZ ?_))
noncomputable abbrev YS:List Str:=["self"]
theorem PD:aq YS ["self"] (ak W9):=fR
noncomputable def Ip:Fn:=rQ (dN YS (aD (bL pQ (af (bB ["Match"] "balls_told" (aa 0)) aj))))
theorem ads (T:Txt K mg a):aQ P w K mg base eF 2 a.ze a.vV ["self"] (dU K (aF a) 1 Ip):=
 aQ.pure (aT T.Oz.F PD λ_ _ _ _ _ _=>(by have:=PD.nd;exists (cI qR T.lJ zaT ?_),(aE (FL T) ?_)))
noncomputable abbrev YT:List Str:=["_law_log","_law_order_here","_law_told","_law_name"]
theorem AX:aq YT ["_law_log"] (ak W_):=fR
noncomputable def Iq:Fn:=dN YT (ao (bh 1 (oF aj))
   (ao (qT (qS iL (aa 0)) (bD 2)
   (qT (qS iT (mSl Wb (aa 2) (ux (mC (.int 3))) (ux (mC (.int 5))))) (bD 3)
   (cy (mB (ai rV (cL (af (ai aL (aa 2) (mC (.int 0))) (af (aa 3) aj))) (aa 1)))
   (dW (pR DY sH (aa 1) (af (cL (af (ai aL (aa 2) (mC (.int 0))) (af (aa 3) aj))) aj)))
   ay)))
   (aD (aa 1))))
theorem adt (T:Txt K mg a):aQ P w K mg base eF 2 a.CJ a.vW ["_law_log"] (dU K (aF a) 1 Iq):=
 aT T.XE.F AX λ_ _ _ _ _ _=>(by have:=AX.nd;exists (nk zbM ?_ ?_ ?_),(d9 2 AX.nd),(abi ?_),(d9 3 AX.nd),(gH acu ?_ ?_ (by with_unfolding_all rfl)),(oR zaY zbu zbv ni kG ?_ ?_))
noncomputable abbrev YU:List Str:=["_law_rules_here","_law_entry_here","_law_kind","_law_runs"]
theorem FZ:aq YU ["_law_rules_here","_law_entry_here"] (ak Xa):=fR
noncomputable def wC:Fn:=dN YU (ao (SX 2 3 (af (ai aL (aa 1) (mC (.int 1))) (af (ai aL (aa 1) (mC (.int 2))) aj)))
   (ao (cy (mB (ai (bY false) (aa 2) (mC (.str "bat"))))
   (aD (jn [((mC (.str "team")),(aa 3)),((mC (.str "bat")),(aa 3)),((mC (.str "charged")),(aa 3)),((mC (.str "fair")),(mC (.int 1))),((mC (.str "faced")),(mC (.int 1)))]))
   ay)
   (ao (cy (mB (ai (uv false) (aa 2) (cL (af (mC (.str "bye")) (af (mC (.str "leg")) aj)))))
   (aD (jn [((mC (.str "team")),(aa 3)),((mC (.str "bat")),(mC (.int 0))),((mC (.str "charged")),(mC (.int 0))),((mC (.str "fair")),(mC (.int 1))),((mC (.str "faced")),(mC (.int 1)))]))
   ay)
   (ao (cy (mB (ai (bY false) (aa 2) (mC (.str "wide"))))
   (aD (jn [((mC (.str "team")),(ai cO (aa 3) (ai aL (aa 0) (mC (.int 3))))),((mC (.str "bat")),(mC (.int 0))),((mC (.str "charged")),(ai cO (aa 3) (ai aL (aa 0) (mC (.int 3))))),((mC (.str "fair")),(mC (.int 0))),((mC (.str "faced")),(mC (.int 0)))]))
   ay)
   (ao (cy (mB (ai (bY false) (aa 2) (mC (.str "no"))))
   (aD (jn [((mC (.str "team")),(ai cO (aa 3) (ai aL (aa 0) (mC (.int 4))))),((mC (.str "bat")),(aa 3)),((mC (.str "charged")),(ai cO (aa 3) (ai aL (aa 0) (mC (.int 4))))),((mC (.str "fair")),(mC (.int 0))),((mC (.str "faced")),(mC (.int 1)))]))
   ay)
   (aD (jn [((mC (.str "team")),(ai cO (aa 3) (ai aL (aa 0) (mC (.int 4))))),((mC (.str "bat")),(mC (.int 0))),((mC (.str "charged")),(ai aL (aa 0) (mC (.int 4)))),((mC (.str "fair")),(mC (.int 0))),((mC (.str "faced")),(mC (.int 1)))])))))))
theorem adu (T:Txt K mg a):aQ P w K mg base eF 2 a.CK a.vX ["_law_rules_here","_law_entry_here"] (dU K (aF a) 2 wC):=
 aT T.XF.F FZ λ_ _ _ _ _ _=>(by have:=FZ.nd;exists (M8 (i:=2) (j:=3) FZ.nd rfl rfl (by decide) rfl rfl ?_ rfl),(As ?_),(Ar ?_ ?_ ?_),oU,(gH xB ?_ ?_ (by with_unfolding_all rfl)),oU,oU,oU,oU)
noncomputable abbrev YV:List Str:=["_law_rules_here","_law_log","_law_due_here","_law_innings","_law_name","_law_row","_law_mine","_law_told","_law_counts_here"]
theorem q_:aq YV ["_law_rules_here","_law_log"] (ak N4):=fR
noncomputable def Ir:Fn:=dN YV (ao (bh 2 (oF aj))
   (ao (qT (qS iL (dM 1 Iq (af (aa 1) aj))) (jM 2 (cY (bD 3) (cY (bD 4) oS)))
   (ao (bh 5 (oF (af (aa 3) (af (aa 4) (af (mC (.int 0)) (af (mC (.int 0)) (af (mC (.int 0)) (af (mC (.int 0)) (af (mC (.str "")) aj)))))))))
   (ao (bh 6 (gx (qS iL (aa 1)) [3] 1 (bD 1) (mB (ai (bY false) (ai aL (aa 1) (mC (.int 0))) (aa 0))) (aa 1)))
   (ao (qT (qS iL (aa 6)) (bD 7)
   (ao (bh 8 (dM 2 wC (af (aa 0) (af (ai aL (aa 7) (mC (.int 6))) aj))))
   (ao (cy (mB (ai (bY false) (ai aL (aa 7) (mC (.int 3))) (aa 4)))
   (ao (mG (ai cO (ai aL (aa 5) (mC (.int 2))) (ai kE (aa 8) (mC (.str "bat")))) (pS (aa 5) (mC (.int 2))))
   (ao (mG (ai cO (ai aL (aa 5) (mC (.int 3))) (ai kE (aa 8) (mC (.str "faced")))) (pS (aa 5) (mC (.int 3))))
   (cy (mD (mB (ai aL (ai aL (aa 7) (mC (.int 6))) (mC (.int 3)))) (mB (ai (uv false) (ai aL (ai aL (aa 7) (mC (.int 6))) (mC (.int 1))) (cL (af (mC (.str "bat")) (af (mC (.str "no")) aj))))))
   (ao (mG (ai cO (ai aL (aa 5) (mC (.int 4))) (bL mE (af (ai (bY false) (ai aL (ai aL (aa 7) (mC (.int 6))) (mC (.int 2))) (mC (.int 4))) aj))) (pS (aa 5) (mC (.int 4))))
   (mG (ai cO (ai aL (aa 5) (mC (.int 5))) (bL mE (af (ai (bY false) (ai aL (ai aL (aa 7) (mC (.int 6))) (mC (.int 2))) (mC (.int 6))) aj))) (pS (aa 5) (mC (.int 5)))))
   ay)))
   ay)
   (cy (mB (ai (bY false) (ai aL (aa 7) (mC (.int 7))) (aa 4)))
   (mG (ai aL (ai aL (aa 7) (mC (.int 6))) (mC (.int 4))) (pS (aa 5) (mC (.int 6))))
   ay))))
   (dW (pR DY sH (aa 2) (af (bL lB (af (aa 5) aj)) aj)))))))
   (aD (aa 2))))
theorem adv (T:Txt K mg a):aQ P w K mg base eF 3 a.CM a.vY ["_law_rules_here","_law_log"] (dU K (aF a) 2 Ir):=
 aT T.XG.F q_ λ_ _ _ _ _ _=>(by have:=q_.nd;exists (nk zbM ?_ ?_ ?_),(cJ (adt T) T.XE ?_),(lC (n:=2) ?_),(d9 3 q_.nd),(d9 4 q_.nd),(Ao (i0:=6) (F:=["_law_innings"]) (T:=["_law_told"]) (fr:=[3]) (Ht N4 (by decide +kernel)) ?_ (λ_ _ _ _ _=>?_) (λ_ _ _ _ _=>?_) (λ_ _ _ _ _=>?_) q_.nd rfl rfl rfl),(d9 1 (show (["_law_innings","_law_told"]:List Str).Nodup by decide +kernel)),(d9 7 q_.nd),(cJ (adu T) T.XF ?_),(M3 ?_ ?_),(gH xB ?_ ?_ (by with_unfolding_all rfl)),(cI yo T.wm zbp ?_),(oR zaY zbu zbv ni kG ?_ ?_),(cI Ai T.nU zbA ?_))
noncomputable abbrev YW:List Str:=["entry","runs"]
theorem PF:aq YW ["entry","runs"] (ak Xb):=fR
noncomputable def Ds:Fn:=dN YW (aD (i8 (ai (uv false) (ai aL (aa 0) (mC (.int 1))) (cL (af (mC (.str "bat")) (af (mC (.str "no")) aj)))) (i8 (ai aL (aa 0) (mC (.int 3))) (ai (bY false) (ai aL (aa 0) (mC (.int 2))) (aa 1)))))
theorem adw (T:Txt K mg a):aQ P w K mg base eF 2 a.CN a.vZ ["entry","runs"] (dU K (aF a) 2 Ds):=
 aT T.XH.F PF λ_ _ _ _ _ _=>(by have:=PF.nd;exists (iJ xB ?_ ?_ (by with_unfolding_all rfl)))
noncomputable abbrev YX:List Str:=["rules","entry","sums","fours","sixes"]
theorem PK:aq YX ["rules","entry"] (ak Xc):=fR
noncomputable def Iu:Fn:=dN YX (ao (bh 2 (dM 2 Dm (af (aa 0) (af (aa 1) aj))))
   (ao (bh 3 (bL mE (af (dM 2 Ds (af (aa 1) (af (mC (.int 4)) aj))) aj)))
   (ao (bh 4 (bL mE (af (dM 2 Ds (af (aa 1) (af (mC (.int 6)) aj))) aj)))
   (aD (cL (af (ai aL (aa 2) (mC (.int 1))) (af (bL mE (af (ai aL (aa 2) (mC (.int 5))) aj)) (af (aa 3) (af (aa 4) aj)))))))))
theorem adx (T:Txt K mg a):aQ P w K mg base eF 4 a.CO a.v_ ["rules","entry"] (dU K (aF a) 2 Iu):=
 aT T.XI.F PK λ_ _ _ _ _ _=>(by have:=PK.nd;exists (cJ (Pb T) T.Oh ?_),(cI yo T.wm zbp ?_),(cJ (adw T) T.XH ?_),(cg T.N8),(cg T.Xh),(cg T.FA),(cg T.FD))
noncomputable abbrev YY:List Str:=["one","two"]
theorem PM:aq YY ["one","two"] (ak N5):=fR
noncomputable def Dt:Fn:=dN YY (aD (bL lB (af (gx (rT (af (aa 0) (af (aa 1) aj))) [] 2 (jM 2 (cY (bD 0) (cY (bD 1) oS))) iX (ai cO (aa 0) (aa 1))) aj)))
theorem ady (T:Txt K mg a):aQ P w K mg base eF 2 a.CQ a.wc ["one","two"] (dU K (aF a) 2 Dt):=
 aT T.XJ.F PM λ_ _ _ _ _ _=>(by have:=PM.nd;exists (cI Ai T.nU zbA ?_),(ie (F:=[]) (T:=["first","second"]) (fr:=[]) (Ht N5 (by decide +kernel)) ?_ (λ_ _ _ _ _=>?_) (λ_ _ _ _ _=>?_) (λ_ _ _ _ _=>?_)),(Hq T.Xg ?_),(lC (n:=2) ?_),(d9 0 (show (["first","second"]:List Str).Nodup by decide +kernel)),(d9 1 (show (["first","second"]:List Str).Nodup by decide +kernel)))
noncomputable abbrev YZ:List Str:=["parts","sums","key","numbers"]
theorem AY:aq YZ ["parts"] (ak N6):=fR
noncomputable def Iv:Fn:=dN YZ (ao (bh 1 p_)
   (ao (qT (qS iL (aa 0)) (jM 2 (cY (bD 2) (cY (bD 3) oS)))
   (qW (aa 1) (aa 2) (DW (mB (ai (AH false) (aa 2) (aa 1))) (dM 2 Dt (af (ai uK (aa 1) (aa 2)) (af (aa 3) aj))) (aa 3))))
   (aD (gx (qS iD (aa 1)) [1] 1 (bD 1) iX (ai cO (aa 1) (ai uK (aa 0) (aa 1)))))))
theorem adz (T:Txt K mg a):aQ P w K mg base eF 3 a.CS a.we ["parts"] (dU K (aF a) 1 Iv):=
 aT T.XM.F AY λ_ _ _ _ _ _=>(by have:=AY.nd;exists yD,(nk zbM ?_ ?_ ?_),(lC (n:=2) ?_),(d9 2 AY.nd),(d9 3 AY.nd),(Cg ?_ ?_ ?_),(acn ?_ ?_),(cJ (ady T) T.XJ ?_),(NP ?_ ?_),(ie (F:=["sums"]) (T:=["key"]) (fr:=[1]) (Ht N6 (by decide +kernel)) ?_ (λ_ _ _ _ _=>?_) (λ_ _ _ _ _=>?_) (λ_ _ _ _ _=>?_)),(Hr ?_),(d9 1 (show (["sums","key"]:List Str).Nodup by decide +kernel)))
noncomputable abbrev Y0:List Str:=["rules","log","parts","ways","innings","over","ball","facing","other","bowler","entry","out"]
theorem jZ:aq Y0 ["rules","log"] (ak N7):=fR
noncomputable def Du:Fn:=dN Y0 (ao (bh 2 (oF aj))
   (ao (bh 3 p_)
   (ao (qT (qS iL (aa 1)) (jM 8 (cY (bD 4) (cY (bD 5) (cY (bD 6) (cY (bD 7) (cY (bD 8) (cY (bD 9) (cY (bD 10) (cY (bD 11) oS)))))))))
   (ao (dW (pR DY sH (aa 2) (af (cL (af (cL (af (aa 4) (af (aa 7) aj))) (af (dM 2 Iu (af (aa 0) (af (aa 10) aj))) aj))) aj)))
   (ao (dW (pR DY sH (aa 2) (af (cL (af (cL (af (aa 4) (af (aa 8) aj))) (af (cL (af (mC (.int 0)) (af (mC (.int 0)) (af (mC (.int 0)) (af (mC (.int 0)) aj))))) aj))) aj)))
   (cy (mB (ai (bY true) (aa 11) (mC (.str ""))))
   (qW (aa 3) (cL (af (aa 4) (af (aa 11) aj))) (ai aL (aa 10) (mC (.int 4))))
   ay))))
   (aD (E_ (qS iL (dM 1 Iv (af (aa 2) aj))) [3] 1 (bD 1) iX (ai cO (aa 1) (cL (af (Fx (aa 0) (mSl Wb (aa 1) Ag (ux (mC (.int 2)))) (mC (.str ""))) aj))))))))
theorem adA (T:Txt K mg a):aQ P w K mg base eF 5 a.CT a.wg ["rules","log"] (dU K (aF a) 2 Du):=
 aT T.XN.F jZ λ_ _ _ _ _ _=>(by have:=jZ.nd;exists yD,(nk zbM ?_ ?_ ?_),(lC (n:=8) ?_),(d9 4 jZ.nd),(d9 5 jZ.nd),(d9 6 jZ.nd),(d9 7 jZ.nd),(d9 8 jZ.nd),(d9 9 jZ.nd),(d9 10 jZ.nd),(d9 11 jZ.nd),(oR zaY zbu zbv ni kG ?_ ?_),(cJ (adx T) T.XI ?_),(Cg ?_ ?_ ?_),(Nb (F:=["ways"]) (T:=["row"]) (fr:=[3]) (Ht N7 (by decide +kernel)) ?_ (λ_ _ _ _ _=>?_) (λ_ _ _ _ _=>?_) (λ_ _ _ _ _=>?_)),(cJ (adz T) T.XM ?_),(d9 1 (show (["ways","row"]:List Str).Nodup by decide +kernel)),(NV ?_ ?_ ?_))
noncomputable abbrev ajH:List Str:=["_law_found","_law_due_here","_law_one","_law_two"]
theorem AZ:aq ajH ["_law_found","_law_due_here"] (ak Xd):=fR
noncomputable def iY:Nat->Fn
 |0=>λ_ _=>.aA
 |n+1=>dN ["_law_found","_law_due_here","_law_one","_law_two"] (ao (cy (EZ (mB (jG "list" (aa 1))) (mB (jG "tuple" (aa 1))))
   (ao (cy (mB (ai (bY true) (jG "list" (aa 1)) (jG "list" (aa 0))))
   (aD (mC (.bl false)))
   ay)
   (ao (cy (mB (ai (bY true) (jG "tuple" (aa 1)) (jG "tuple" (aa 0))))
   (aD (mC (.bl false)))
   ay)
   (ao (cy (mB (ai (bY true) (bL iM (af (aa 0) aj)) (bL iM (af (aa 1) aj))))
   (aD (mC (.bl false)))
   ay)
   (ao (qT (rT (af (aa 0) (af (aa 1) aj))) (jM 2 (cY (bD 2) (cY (bD 3) oS)))
   (cy (xy (mB (dM 2 (iY n) (af (aa 2) (af (aa 3) aj)))))
   (aD (mC (.bl false)))
   ay))
   (aD (mC (.bl true)))))))
   ay)
   (ao (cy (mB (ai (i9 false) (aa 1) (mC .bz)))
   (aD (ai (i9 false) (aa 0) (mC .bz)))
   ay)
   (ao (cy (mB (jG "str" (aa 1)))
   (aD (i8 (jG "str" (aa 0)) (ai (bY false) (aa 0) (aa 1))))
   ay)
   (aD (i8 (jG "int" (aa 0)) (i8 (JD (jG "bool" (aa 0))) (ai (bY false) (aa 0) (aa 1))))))))
theorem PN (T:Txt K mg a):∀n,aQ P w K mg base eF (1+n) a.CU a.wj ["_law_found","_law_due_here"] (dU K (aF a) 2 (iY n))
 |0=>amO T.rZ.F AZ
 |n+1=>by
  have IH:=PN T n;have qe:iY (n+1)=dN ["_law_found","_law_due_here","_law_one","_law_two"] (ao (cy (EZ (mB (jG "list" (aa 1))) (mB (jG "tuple" (aa 1))))
   (ao (cy (mB (ai (bY true) (jG "list" (aa 1)) (jG "list" (aa 0))))
   (aD (mC (.bl false)))
   ay)
   (ao (cy (mB (ai (bY true) (jG "tuple" (aa 1)) (jG "tuple" (aa 0))))
   (aD (mC (.bl false)))
   ay)
   (ao (cy (mB (ai (bY true) (bL iM (af (aa 0) aj)) (bL iM (af (aa 1) aj))))
   (aD (mC (.bl false)))
   ay)
   (ao (qT (rT (af (aa 0) (af (aa 1) aj))) (jM 2 (cY (bD 2) (cY (bD 3) oS)))
   (cy (xy (mB (dM 2 (iY n) (af (aa 2) (af (aa 3) aj)))))
   (aD (mC (.bl false)))
   ay))
   (aD (mC (.bl true)))))))
   ay)
   (ao (cy (mB (ai (i9 false) (aa 1) (mC .bz)))
   (aD (ai (i9 false) (aa 0) (mC .bz)))
   ay)
   (ao (cy (mB (jG "str" (aa 1)))
   (aD (i8 (jG "str" (aa 0)) (ai (bY false) (aa 0) (aa 1))))
   ay)
   (aD (i8 (jG "int" (aa 0)) (i8 (JD (jG "bool" (aa 0))) (ai (bY false) (aa 0) (aa 1)))))))):=rfl
  rw[qe];exact aT (k:=1+n) T.rZ.F AZ λfF A outer s H E=>(jN (rO (K8.t (V7 (ue (jV (u:= "list") T.cQ T.lJ zaT (dw 1))) (MR (ue (jV (u:= "tuple") T.cQ T.nU zbA (dw 1))))))
   (jN (rO (gH MY (jV (u:= "list") T.cQ T.lJ zaT (dw 1)) (jV (u:= "list") T.cQ T.lJ zaT (dw 0)) (jT _))
   (jW (lD ym))
   nj)
   (jN (rO (gH MY (jV (u:= "tuple") T.cQ T.nU zbA (dw 1)) (jV (u:= "tuple") T.cQ T.nU zbA (dw 0)) (jT _))
   (jW (lD ym))
   nj)
   (jN (rO (gH MY (dz kF T.kH zaZ (lz (dw 0) ug)) (dz kF T.kH zaZ (lz (dw 1) ug)) (jT _))
   (jW (lD ym))
   nj)
   (jN (nk zbM (Hq T.Xg (lz (dw 0) (lz (dw 1) ug))) (lC (n:=2) (uz (d9 2 AZ.nd) (uz (d9 3 AZ.nd) G2)))
   (jW (rO (MQ (ue (Aq IH (zaf _) T.rZ.m T.rZ.F.kp T.rZ.b aG (lz (dw 2) (lz (dw 3) ug)))))
   (jW (lD ym))
   nj)))
   (jW (lD ym))))))
   nj)
   (jN (rO (gH SE (dw 1) EY (jT _))
   (jW (lD (iJ SE (dw 0) EY (jT _))))
   nj)
   (jN (rO (ue (jV (u:= "str") T.cQ T.Xf zet (dw 1)))
   (jW (lD (Aa (jV (u:= "str") T.cQ T.Xf zet (dw 0)) (E3 (iJ SD (dw 0) (dw 1) (jT _))))))
   nj)
   (jW (lD (Aa (jV (u:= "int") T.cQ T.wm zbp (dw 0)) (Aa (E4 (jV (u:= "bool") T.cQ T.acy PyProof.Rows.boot_bool (dw 0))) (E3 (iJ SD (dw 0) (dw 1) (jT _))))))))))
noncomputable abbrev Y3:List Str:=["_law_script","_law_draw","_law_rules_here","_law_match","_law_log","_law_handed","_law_due_here","_law_found"]
theorem A0:aq Y3 ["_law_script"] (ak Xe):=fR
noncomputable def PR:Fn:=dN Y3 (ao (bh 1 (dM 1 De (af (aa 0) aj)))
   (ao (mG (dM 1 Im (af (aa 1) aj)) (G3 2 (cY (bD 2) (cY (bD 3) oS))))
   (ao (bh 4 (dM 2 Io (af (aa 1) (af (aR "Match" "log" 1 Ip (aa 3) aj) aj))))
   (ao (bh 5 (bL pQ (af (aa 4) aj)))
   (ao (bh 6 (dM 2 Ir (af (aa 2) (af (aa 4) aj))))
   (ao (bh 7 (dM 2 Du (af (aa 2) (af (aa 5) aj))))
   (ao (cy (EZ (xy (mB (dM 2 (iY 3) (af (aa 7) (af (aa 6) aj))))) (mB (ai (bY true) (aa 5) (aa 4))))
   (aD (mC (.bl false)))
   ay)
   (ao (dW (pR DY uy (aa 7) aj))
   (aD (dM 2 (iY 3) (af (dM 2 Du (af (aa 2) (af (aa 5) aj))) (af (aa 6) aj))))))))))))
theorem adB (T:Txt K mg a):aQ P w K mg base eF 11 a.CV a.oY ["_law_script"] (dU K (aF a) 1 PR):=
 aT T.OA.F A0 λ_ _ _ _ _ _=>(by have:=A0.nd;exists (cJ (acO T) T.Xi ?_),(cJ (adp T) T.XC ?_),(SV (n:=2) ?_),(d9 2 A0.nd),(d9 3 A0.nd),(cJ (adq T) T.XD ?_),(aW (aB T) (UH T) (ads T) (by decide) T.Oz.b aG ?_),(cI qR T.lJ zaT ?_),(cJ (adv T) T.XG ?_),(cJ (adA T) T.XN ?_),(Aq (PN T 3) (by decide) T.rZ.m T.rZ.F.kp T.rZ.b aG ?_),(SO zaY PySem.F.slot_list_clear PySem.F.type_list_clear ni SR ?_))
end
theorem A1 (c:Nat):Str.length ⟨#[c]⟩=1:=rfl
theorem UP (a b:Str):(a++b).length=a.length+b.length:=by
 have:(a++b).cps.toList.length=a.cps.toList.length+b.cps.toList.length:=by rw[Mu,zak]
 simpa[Str.length] using this
theorem UQ (l:List Tr)(i j:Nat)(h:i<=j):Ah l (some (i:Int)) (some (j:Int))=(l.take j).drop i:=by
 unfold Ah;simp only[HT.RH];rw[List.drop_take];by_cases h1:i<=l.length
 ·rw[Nat.min_eq_left h1]
  by_cases h2:j<=l.length
  ·rw[Nat.min_eq_left h2]
  ·rw[Nat.min_eq_right (by omega)]
   rw[zbl (by simp),zbl (by simp;omega)]
 ·rw[zek (as:=l) (i:=i) (by omega),zek (as:=l) (i:=min i l.length) (by rw[Nat.min_eq_right (by omega)];exact zaf _)]
  simp
section
variable {x0 x1 x2 x3 x4 x5 x6 x7 x8 x9 iE iz v:Tr}
noncomputable abbrev mr (x0 x1 x2 x3 x4 x5 x6:Tr):List (Str×Tr):=[("rules",x0),("sides",x1),("known",x2),("played",x3),("followed",x4),("closed",x5),("balls_told",x6)]
noncomputable abbrev ir (x0 x1 x2 x3 x4 x5 x6 x7 x8 x9 iE iz:Tr):List (Str×Tr):=[("side",x0),("facing",x1),("other",x2),("bowler",x3),("ahead",x4),("total",x5),("wickets",x6),("overs",x7),("balls",x8),("ending",x9),("outs",iE),("spells",iz)]
theorem adC:cG ("rules" : Str) v ([]:List (Str×Tr))=([("rules",v)]:List (Str×Tr)):=by kernel_rfl
theorem adD:aH ("rules" : Str) (mr x0 x1 x2 x3 x4 x5 x6)=some x0:=by kernel_rfl
theorem adE:cG ("sides" : Str) v ([("rules",x0)]:List (Str×Tr))=([("rules",x0),("sides",v)]:List (Str×Tr)):=by kernel_rfl
theorem adF:aH ("sides" : Str) (mr x0 x1 x2 x3 x4 x5 x6)=some x1:=by kernel_rfl
theorem adG:cG ("sides" : Str) v (mr x0 x1 x2 x3 x4 x5 x6)=([("rules",x0),("sides",v),("known",x2),("played",x3),("followed",x4),("closed",x5),("balls_told",x6)]:List (Str×Tr)):=by kernel_rfl
theorem adH:cG ("known" : Str) v ([("rules",x0),("sides",x1)]:List (Str×Tr))=([("rules",x0),("sides",x1),("known",v)]:List (Str×Tr)):=by kernel_rfl
theorem adI:aH ("known" : Str) (mr x0 x1 x2 x3 x4 x5 x6)=some x2:=by kernel_rfl
theorem adJ:cG ("played" : Str) v ([("rules",x0),("sides",x1),("known",x2)]:List (Str×Tr))=([("rules",x0),("sides",x1),("known",x2),("played",v)]:List (Str×Tr)):=by kernel_rfl
theorem adK:aH ("played" : Str) (mr x0 x1 x2 x3 x4 x5 x6)=some x3:=by kernel_rfl
theorem adL:cG ("followed" : Str) v ([("rules",x0),("sides",x1),("known",x2),("played",x3)]:List (Str×Tr))=([("rules",x0),("sides",x1),("known",x2),("played",x3),("followed",v)]:List (Str×Tr)):=by kernel_rfl
theorem adM:aH ("followed" : Str) (mr x0 x1 x2 x3 x4 x5 x6)=some x4:=by kernel_rfl
theorem adN:cG ("followed" : Str) v (mr x0 x1 x2 x3 x4 x5 x6)=([("rules",x0),("sides",x1),("known",x2),("played",x3),("followed",v),("closed",x5),("balls_told",x6)]:List (Str×Tr)):=by kernel_rfl
theorem adO:cG ("closed" : Str) v ([("rules",x0),("sides",x1),("known",x2),("played",x3),("followed",x4)]:List (Str×Tr))=([("rules",x0),("sides",x1),("known",x2),("played",x3),("followed",x4),("closed",v)]:List (Str×Tr)):=by kernel_rfl
theorem adP:aH ("closed" : Str) (mr x0 x1 x2 x3 x4 x5 x6)=some x5:=by kernel_rfl
theorem adQ:cG ("closed" : Str) v (mr x0 x1 x2 x3 x4 x5 x6)=([("rules",x0),("sides",x1),("known",x2),("played",x3),("followed",x4),("closed",v),("balls_told",x6)]:List (Str×Tr)):=by kernel_rfl
theorem adR:cG ("balls_told" : Str) v ([("rules",x0),("sides",x1),("known",x2),("played",x3),("followed",x4),("closed",x5)]:List (Str×Tr))=([("rules",x0),("sides",x1),("known",x2),("played",x3),("followed",x4),("closed",x5),("balls_told",v)]:List (Str×Tr)):=by kernel_rfl
theorem adS:aH ("balls_told" : Str) (mr x0 x1 x2 x3 x4 x5 x6)=some x6:=by kernel_rfl
theorem adT:aH ("going" : Str) (mr x0 x1 x2 x3 x4 x5 x6)=none:=by kernel_rfl
theorem adU:aH ("state" : Str) (mr x0 x1 x2 x3 x4 x5 x6)=none:=by kernel_rfl
theorem adV:aH ("most_innings" : Str) (mr x0 x1 x2 x3 x4 x5 x6)=none:=by kernel_rfl
theorem adW:aH ("total_of" : Str) (mr x0 x1 x2 x3 x4 x5 x6)=none:=by kernel_rfl
theorem adX:aH ("lead_of" : Str) (mr x0 x1 x2 x3 x4 x5 x6)=none:=by kernel_rfl
theorem adY:aH ("is_done" : Str) (mr x0 x1 x2 x3 x4 x5 x6)=none:=by kernel_rfl
theorem adZ:aH ("next_side" : Str) (mr x0 x1 x2 x3 x4 x5 x6)=none:=by kernel_rfl
theorem ad0:aH ("may_follow" : Str) (mr x0 x1 x2 x3 x4 x5 x6)=none:=by kernel_rfl
theorem ad1:aH ("side_to_start" : Str) (mr x0 x1 x2 x3 x4 x5 x6)=none:=by kernel_rfl
theorem ad2:aH ("start_refusal" : Str) (mr x0 x1 x2 x3 x4 x5 x6)=none:=by kernel_rfl
theorem ad3:aH ("swap_refusal" : Str) (mr x0 x1 x2 x3 x4 x5 x6)=none:=by kernel_rfl
theorem ad4:aH ("follow_refusal" : Str) (mr x0 x1 x2 x3 x4 x5 x6)=none:=by kernel_rfl
theorem ad5:aH ("refusal" : Str) (mr x0 x1 x2 x3 x4 x5 x6)=none:=by kernel_rfl
theorem ad6:aH ("begin" : Str) (mr x0 x1 x2 x3 x4 x5 x6)=none:=by kernel_rfl
theorem ad7:aH ("play_ball" : Str) (mr x0 x1 x2 x3 x4 x5 x6)=none:=by kernel_rfl
theorem ad8:aH ("swap_player" : Str) (mr x0 x1 x2 x3 x4 x5 x6)=none:=by kernel_rfl
theorem ad9:aH ("close" : Str) (mr x0 x1 x2 x3 x4 x5 x6)=none:=by kernel_rfl
theorem aea:aH ("do" : Str) (mr x0 x1 x2 x3 x4 x5 x6)=none:=by kernel_rfl
theorem aeb:aH ("ending_due" : Str) (mr x0 x1 x2 x3 x4 x5 x6)=none:=by kernel_rfl
theorem aec:aH ("tell" : Str) (mr x0 x1 x2 x3 x4 x5 x6)=none:=by kernel_rfl
theorem aed:aH ("turn" : Str) (mr x0 x1 x2 x3 x4 x5 x6)=none:=by kernel_rfl
theorem aee:aH ("players" : Str) (mr x0 x1 x2 x3 x4 x5 x6)=none:=by kernel_rfl
theorem aef:aH ("log" : Str) (mr x0 x1 x2 x3 x4 x5 x6)=none:=by kernel_rfl
theorem PU:(("Match" : Str)∈(["Match"]:List Str))=True:=eq_true (zaS.mpr rfl)
theorem aeg:cG ("side" : Str) v ([]:List (Str×Tr))=([("side",v)]:List (Str×Tr)):=by kernel_rfl
theorem aeh:aH ("side" : Str) (ir x0 x1 x2 x3 x4 x5 x6 x7 x8 x9 iE iz)=some x0:=by kernel_rfl
theorem aei:cG ("facing" : Str) v ([("side",x0)]:List (Str×Tr))=([("side",x0),("facing",v)]:List (Str×Tr)):=by kernel_rfl
theorem aej:aH ("facing" : Str) (ir x0 x1 x2 x3 x4 x5 x6 x7 x8 x9 iE iz)=some x1:=by kernel_rfl
theorem aek:cG ("facing" : Str) v (ir x0 x1 x2 x3 x4 x5 x6 x7 x8 x9 iE iz)=([("side",x0),("facing",v),("other",x2),("bowler",x3),("ahead",x4),("total",x5),("wickets",x6),("overs",x7),("balls",x8),("ending",x9),("outs",iE),("spells",iz)]:List (Str×Tr)):=by kernel_rfl
theorem ael:cG ("other" : Str) v ([("side",x0),("facing",x1)]:List (Str×Tr))=([("side",x0),("facing",x1),("other",v)]:List (Str×Tr)):=by kernel_rfl
theorem aem:aH ("other" : Str) (ir x0 x1 x2 x3 x4 x5 x6 x7 x8 x9 iE iz)=some x2:=by kernel_rfl
theorem aen:cG ("other" : Str) v (ir x0 x1 x2 x3 x4 x5 x6 x7 x8 x9 iE iz)=([("side",x0),("facing",x1),("other",v),("bowler",x3),("ahead",x4),("total",x5),("wickets",x6),("overs",x7),("balls",x8),("ending",x9),("outs",iE),("spells",iz)]:List (Str×Tr)):=by kernel_rfl
theorem aeo:cG ("bowler" : Str) v ([("side",x0),("facing",x1),("other",x2)]:List (Str×Tr))=([("side",x0),("facing",x1),("other",x2),("bowler",v)]:List (Str×Tr)):=by kernel_rfl
theorem aep:aH ("bowler" : Str) (ir x0 x1 x2 x3 x4 x5 x6 x7 x8 x9 iE iz)=some x3:=by kernel_rfl
theorem aeq:cG ("bowler" : Str) v (ir x0 x1 x2 x3 x4 x5 x6 x7 x8 x9 iE iz)=([("side",x0),("facing",x1),("other",x2),("bowler",v),("ahead",x4),("total",x5),("wickets",x6),("overs",x7),("balls",x8),("ending",x9),("outs",iE),("spells",iz)]:List (Str×Tr)):=by kernel_rfl
theorem aer:cG ("ahead" : Str) v ([("side",x0),("facing",x1),("other",x2),("bowler",x3)]:List (Str×Tr))=([("side",x0),("facing",x1),("other",x2),("bowler",x3),("ahead",v)]:List (Str×Tr)):=by kernel_rfl
theorem aes:aH ("ahead" : Str) (ir x0 x1 x2 x3 x4 x5 x6 x7 x8 x9 iE iz)=some x4:=by kernel_rfl
theorem aet:cG ("ahead" : Str) v (ir x0 x1 x2 x3 x4 x5 x6 x7 x8 x9 iE iz)=([("side",x0),("facing",x1),("other",x2),("bowler",x3),("ahead",v),("total",x5),("wickets",x6),("overs",x7),("balls",x8),("ending",x9),("outs",iE),("spells",iz)]:List (Str×Tr)):=by kernel_rfl
theorem aeu:cG ("total" : Str) v ([("side",x0),("facing",x1),("other",x2),("bowler",x3),("ahead",x4)]:List (Str×Tr))=([("side",x0),("facing",x1),("other",x2),("bowler",x3),("ahead",x4),("total",v)]:List (Str×Tr)):=by kernel_rfl
theorem aev:aH ("total" : Str) (ir x0 x1 x2 x3 x4 x5 x6 x7 x8 x9 iE iz)=some x5:=by kernel_rfl
theorem aew:cG ("total" : Str) v (ir x0 x1 x2 x3 x4 x5 x6 x7 x8 x9 iE iz)=([("side",x0),("facing",x1),("other",x2),("bowler",x3),("ahead",x4),("total",v),("wickets",x6),("overs",x7),("balls",x8),("ending",x9),("outs",iE),("spells",iz)]:List (Str×Tr)):=by kernel_rfl
theorem aex:cG ("wickets" : Str) v ([("side",x0),("facing",x1),("other",x2),("bowler",x3),("ahead",x4),("total",x5)]:List (Str×Tr))=([("side",x0),("facing",x1),("other",x2),("bowler",x3),("ahead",x4),("total",x5),("wickets",v)]:List (Str×Tr)):=by kernel_rfl
theorem aey:aH ("wickets" : Str) (ir x0 x1 x2 x3 x4 x5 x6 x7 x8 x9 iE iz)=some x6:=by kernel_rfl
theorem aez:cG ("wickets" : Str) v (ir x0 x1 x2 x3 x4 x5 x6 x7 x8 x9 iE iz)=([("side",x0),("facing",x1),("other",x2),("bowler",x3),("ahead",x4),("total",x5),("wickets",v),("overs",x7),("balls",x8),("ending",x9),("outs",iE),("spells",iz)]:List (Str×Tr)):=by kernel_rfl
theorem aeA:cG ("overs" : Str) v ([("side",x0),("facing",x1),("other",x2),("bowler",x3),("ahead",x4),("total",x5),("wickets",x6)]:List (Str×Tr))=([("side",x0),("facing",x1),("other",x2),("bowler",x3),("ahead",x4),("total",x5),("wickets",x6),("overs",v)]:List (Str×Tr)):=by kernel_rfl
theorem aeB:aH ("overs" : Str) (ir x0 x1 x2 x3 x4 x5 x6 x7 x8 x9 iE iz)=some x7:=by kernel_rfl
theorem aeC:cG ("overs" : Str) v (ir x0 x1 x2 x3 x4 x5 x6 x7 x8 x9 iE iz)=([("side",x0),("facing",x1),("other",x2),("bowler",x3),("ahead",x4),("total",x5),("wickets",x6),("overs",v),("balls",x8),("ending",x9),("outs",iE),("spells",iz)]:List (Str×Tr)):=by kernel_rfl
theorem aeD:cG ("balls" : Str) v ([("side",x0),("facing",x1),("other",x2),("bowler",x3),("ahead",x4),("total",x5),("wickets",x6),("overs",x7)]:List (Str×Tr))=([("side",x0),("facing",x1),("other",x2),("bowler",x3),("ahead",x4),("total",x5),("wickets",x6),("overs",x7),("balls",v)]:List (Str×Tr)):=by kernel_rfl
theorem aeE:aH ("balls" : Str) (ir x0 x1 x2 x3 x4 x5 x6 x7 x8 x9 iE iz)=some x8:=by kernel_rfl
theorem aeF:cG ("balls" : Str) v (ir x0 x1 x2 x3 x4 x5 x6 x7 x8 x9 iE iz)=([("side",x0),("facing",x1),("other",x2),("bowler",x3),("ahead",x4),("total",x5),("wickets",x6),("overs",x7),("balls",v),("ending",x9),("outs",iE),("spells",iz)]:List (Str×Tr)):=by kernel_rfl
theorem aeG:cG ("ending" : Str) v ([("side",x0),("facing",x1),("other",x2),("bowler",x3),("ahead",x4),("total",x5),("wickets",x6),("overs",x7),("balls",x8)]:List (Str×Tr))=([("side",x0),("facing",x1),("other",x2),("bowler",x3),("ahead",x4),("total",x5),("wickets",x6),("overs",x7),("balls",x8),("ending",v)]:List (Str×Tr)):=by kernel_rfl
theorem aeH:aH ("ending" : Str) (ir x0 x1 x2 x3 x4 x5 x6 x7 x8 x9 iE iz)=some x9:=by kernel_rfl
theorem aeI:cG ("ending" : Str) v (ir x0 x1 x2 x3 x4 x5 x6 x7 x8 x9 iE iz)=([("side",x0),("facing",x1),("other",x2),("bowler",x3),("ahead",x4),("total",x5),("wickets",x6),("overs",x7),("balls",x8),("ending",v),("outs",iE),("spells",iz)]:List (Str×Tr)):=by kernel_rfl
theorem UR:cG ("outs" : Str) v ([("side",x0),("facing",x1),("other",x2),("bowler",x3),("ahead",x4),("total",x5),("wickets",x6),("overs",x7),("balls",x8),("ending",x9)]:List (Str×Tr))=([("side",x0),("facing",x1),("other",x2),("bowler",x3),("ahead",x4),("total",x5),("wickets",x6),("overs",x7),("balls",x8),("ending",x9),("outs",v)]:List (Str×Tr)):=by kernel_rfl
theorem US:aH ("outs" : Str) (ir x0 x1 x2 x3 x4 x5 x6 x7 x8 x9 iE iz)=some iE:=by kernel_rfl
theorem UT:cG ("outs" : Str) v (ir x0 x1 x2 x3 x4 x5 x6 x7 x8 x9 iE iz)=([("side",x0),("facing",x1),("other",x2),("bowler",x3),("ahead",x4),("total",x5),("wickets",x6),("overs",x7),("balls",x8),("ending",x9),("outs",v),("spells",iz)]:List (Str×Tr)):=by kernel_rfl
theorem UU:cG ("spells" : Str) v ([("side",x0),("facing",x1),("other",x2),("bowler",x3),("ahead",x4),("total",x5),("wickets",x6),("overs",x7),("balls",x8),("ending",x9),("outs",iE)]:List (Str×Tr))=([("side",x0),("facing",x1),("other",x2),("bowler",x3),("ahead",x4),("total",x5),("wickets",x6),("overs",x7),("balls",x8),("ending",x9),("outs",iE),("spells",v)]:List (Str×Tr)):=by kernel_rfl
theorem UW:aH ("spells" : Str) (ir x0 x1 x2 x3 x4 x5 x6 x7 x8 x9 iE iz)=some iz:=by kernel_rfl
theorem UX:cG ("spells" : Str) v (ir x0 x1 x2 x3 x4 x5 x6 x7 x8 x9 iE iz)=([("side",x0),("facing",x1),("other",x2),("bowler",x3),("ahead",x4),("total",x5),("wickets",x6),("overs",x7),("balls",x8),("ending",x9),("outs",iE),("spells",v)]:List (Str×Tr)):=by kernel_rfl
theorem aeJ:aH ("stands" : Str) (ir x0 x1 x2 x3 x4 x5 x6 x7 x8 x9 iE iz)=none:=by kernel_rfl
theorem ajI:aH ("has_gap" : Str) (ir x0 x1 x2 x3 x4 x5 x6 x7 x8 x9 iE iz)=none:=by kernel_rfl
theorem ajJ:aH ("has_left" : Str) (ir x0 x1 x2 x3 x4 x5 x6 x7 x8 x9 iE iz)=none:=by kernel_rfl
theorem ajK:aH ("change_ends" : Str) (ir x0 x1 x2 x3 x4 x5 x6 x7 x8 x9 iE iz)=none:=by kernel_rfl
theorem ajL:aH ("leave" : Str) (ir x0 x1 x2 x3 x4 x5 x6 x7 x8 x9 iE iz)=none:=by kernel_rfl
theorem ajM:aH ("come_in" : Str) (ir x0 x1 x2 x3 x4 x5 x6 x7 x8 x9 iE iz)=none:=by kernel_rfl
theorem ajN:aH ("bowl_next" : Str) (ir x0 x1 x2 x3 x4 x5 x6 x7 x8 x9 iE iz)=none:=by kernel_rfl
theorem ajO:aH ("out_by" : Str) (ir x0 x1 x2 x3 x4 x5 x6 x7 x8 x9 iE iz)=none:=by kernel_rfl
theorem ajP:aH ("fall" : Str) (ir x0 x1 x2 x3 x4 x5 x6 x7 x8 x9 iE iz)=none:=by kernel_rfl
theorem ajQ:aH ("count_fair" : Str) (ir x0 x1 x2 x3 x4 x5 x6 x7 x8 x9 iE iz)=none:=by kernel_rfl
theorem aeK:aH ("play" : Str) (ir x0 x1 x2 x3 x4 x5 x6 x7 x8 x9 iE iz)=none:=by kernel_rfl
theorem aeL:aH ("rename" : Str) (ir x0 x1 x2 x3 x4 x5 x6 x7 x8 x9 iE iz)=none:=by kernel_rfl
theorem F0:(("Innings" : Str)∈(["Innings"]:List Str))=True:=eq_true (zaS.mpr rfl)
end
def fx:=jp @adC<|jp @adD<|jp @adE<|jp @adF<|jp @adG<|jp @adH<|jp @adI<|jp @adJ<|jp @adK<|jp @adL<|jp @adM<|jp @adN<|jp @adO<|jp @adP<|jp @adQ<|jp @adR<|jp @adS<|jp @PU<|jp @adT<|jp @adU<|jp @adV<|jp @adW<|jp @adX<|jp @adY<|jp @adZ<|jp @ad0<|jp @ad1<|jp @ad2<|jp @ad3<|jp @ad4<|jp @ad5<|jp @ad6<|jp @ad7<|jp @ad8<|jp @ad9<|jp @aea<|jp @aeb<|jp @aec<|jp @aed<|jp @aee<|jp @aef<|jp @aeg<|jp @aeh<|jp @aei<|jp @aej<|jp @aek<|jp @ael<|jp @aem<|jp @aen<|jp @aeo<|jp @aep<|jp @aeq<|jp @aer<|jp @aes<|jp @aet<|jp @aeu<|jp @aev<|jp @aew<|jp @aex<|jp @aey<|jp @aez<|jp @aeA<|jp @aeB<|jp @aeC<|jp @aeD<|jp @aeE<|jp @aeF<|jp @aeG<|jp @aeH<|jp @aeI<|jp @UR<|jp @US<|jp @UT<|jp @UU<|jp @UW<|jp @UX<|jp @F0<|jp @aeJ<|jp @ajI<|jp @ajJ<|jp @ajK<|jp @ajL<|jp @ajM<|jp @ajN<|jp @ajO<|jp @ajP<|jp @ajQ<|jp @aeK<|jp @aeL<|@Tz
noncomputable def cT (t0 t1:Str)(p0 p1:List Str):Tr:=.ls [.tp [.str t0,.ls (p0.map .str)],.tp [.str t1,.ls (p1.map .str)]]
structure U where
 o:Int
 v:Int
 s:Int
 w:Int
 n:Int
 d:Int
 i:Int
 f:Int
noncomputable def U.t (u:U):Tr:=.tp [.int u.o,.int u.v,.int u.s,.int u.w,.int u.n,.int u.d,.int u.i,.int u.f]
structure I where
 bW:Int
 o6:Str
 wR:Str
 wD:Str
 Y4:Str
 fG:Int
 wk:Int
 ov:Int
 ba:Int
 en:Str
 outs:List Str
 gU:List (Str×Int)
structure M where
 ru:U
 t0:Str
 t1:Str
 p0:List Str
 p1:List Str
 kn:List Str
 pl:List I
 Y5:Bool
 clo:Bool
 fN:List Tr
structure L3 where
 i:Nat
 o:Nat
 s:Nat
structure Ly where
 a:Nat
 k:Nat
 p:Nat
 l:Nat
 cs:List L3
noncomputable def jz (x:I)(c:L3):List (Str×Tr):=[("side",.int x.bW),("facing",.str x.o6),("other",.str x.wR),("bowler",.str x.wD),("ahead",.str x.Y4),("total",.int x.fG),("wickets",.int x.wk),("overs",.int x.ov),("balls",.int x.ba),("ending",.str x.en),("outs",.hd c.o),("spells",.hd c.s)]
noncomputable def iF (l:List Str):List (dh×Tr):=l.map λk=>(.inr k,.bl true)
noncomputable def sW (l:List (Str×Int)):List (dh×Tr):=l.map λp=>(.inr p.1,.int p.2)
structure h_ (S:Cs) (x:I) (c:L3):Prop where
 i:S[c.i]? = some (.fH "Innings" (jz x c))
 o:S[c.o]? = some (.gS (iF x.outs))
 s:S[c.s]? = some (.gS (sW x.gU))
structure Dj (c:L3):Prop where
 io:c.i≠c.o
 is:c.i≠c.s
 os:c.o≠c.s
noncomputable def kJ (S:Cs)(x:I)(c:L3):Cs:=((S.set c.i (.fH "Innings" (jz x c))).set c.o (.gS (iF x.outs))).set c.s (.gS (sW x.gU))
theorem bq {S:Cs}{n:Nat}{c:Ce}(h:S[n]? = some c):n<S.length:=(zae.mp h).1
theorem cR {S:Cs}{n:Nat}{c:Ce}(h:n<S.length):(S.set n c)[n]? = some c:=zaI h
theorem dB {S:Cs}{n k:Nat}{c:Ce}(h:¬ n=k):(S.set n c)[k]? = S[k]?:= zay h
theorem fE {S:Cs}{n:Nat}{c d:Ce}:(S.set n c).set n d=S.set n d:=zco ..
theorem lM {S:Cs}{x y:I}{c:L3}(h:h_ S x c)(d:Dj c):h_ (kJ S y c) y c where
 i:=by
  unfold kJ;rw[dB d.is.symm,dB d.io.symm,cR (bq h.i)]
 o:=by
  unfold kJ;rw[dB d.os.symm,cR (by rw[zdk];exact bq h.o)]
 s:=by
  unfold kJ;rw[cR (by rw[zdk,zdk];exact bq h.s)]
theorem nY {S:Cs}{x y:I}{c:L3}(d:Dj c):kJ (kJ S x c) y c=kJ S y c:=by
 unfold kJ;rw[zda (i:=c.s) (j:=c.i) _ _ d.is.symm,zda (i:=c.o) (j:=c.i) _ _ d.io.symm,fE,zda (i:=c.s) (j:=c.o) _ _ d.os.symm,fE,fE]
theorem lY {S:Cs}{x y:I}{c:L3}(h:h_ S x c)(d:Dj c)(ho:y.outs=x.outs)(hs:y.gU=x.gU):S.set c.i (.fH "Innings" (jz y c))=kJ S y c:=by
 unfold kJ;rw[ho,hs,jo (i:=c.o) (by rw[dB d.io];exact h.o),jo (i:=c.s) (by rw[dB d.is];exact h.s)]
theorem gi {x:Str}{l:List Str}:La (.str x) (l.map .str)=decide (x∈l):=by
 rw[zaU];simp only[La,zcE,zbW,Function.comp,eqF,beq_iff_eq,decide_eq_true_eq];exact⟨λ⟨y,h,e⟩=>e ▸ h,λh=>⟨x,h,rfl⟩⟩
theorem D_:La (.str x) [.str a,.str b]=decide (x=a\/x=b):=by
 rw[zaU];simp only[La,zbP,zeQ,eqF,zeB,zea,decide_eq_true_eq,beq_iff_eq];exact⟨λh=>h.imp zcW zcW,λh=>h.imp zcW zcW⟩
theorem in3:La (.str x) [.str a,.str b,.str c]=decide (x=a\/x=b\/x=c):=by
 rw[zaU];simp only[La,zbP,zeQ,eqF,zeB,zea,decide_eq_true_eq,beq_iff_eq];exact⟨λh=>h.imp zcW (·.imp zcW zcW),λh=>h.imp zcW (·.imp zcW zcW)⟩
theorem bF:iW (.str s)=true:=rfl
theorem gj {l:List Str}:(l.map Tr.str).all iW=true:=by
 rw[zcp];intro x hx;obtain⟨s,_,rfl⟩:=zbw.mp hx;rfl
theorem kK:∀{l:List Str},(aH (.inr k) (iF l)).isSome=decide (k∈l)
 |[]=>rfl
 |a::r=>by
  unfold iF;rw[rW];unfold aH;by_cases h:a=k
  ·subst h;rw[if_pos rfl];simp
  ·rw[if_neg (λz=>h (zdt z))]
   have:=kK (k:=k) (l:=r)
   unfold iF at this;rw[this];simp[zap,zbg h]
noncomputable def I.dD (x:I)(n:Str):Bool:=decide (n=x.o6\/n=x.wR)
noncomputable def I.QZ (x:I):Bool:=x.dD ""
noncomputable def I.left (x:I)(ps:List Str):Bool:=ps.any λn=>!decide (n∈x.outs) && !x.dD n
noncomputable def I.swap (x:I):I:={x with o6:=x.wR,wR:=x.o6}
noncomputable def I.gO (x:I)(n:Str):I:=if x.o6=n then { x with o6:= "" } else { x with wR:= "" }
noncomputable def I.Dv (x:I)(n:Str):I:=if x.o6="" then {x with o6:=n} else {x with wR:=n}
section
variable {S:Cs}{x:I}{c:L3}
theorem kL (h:h_ S x c)(n:Str):qf [.hd c.i,.str n] S = .ok (.bl (x.dD n)) S:=by
 unfold qf I.dD;have hi:=h.i;unfold jz at hi;simp?[fx,hi,zaA,zaL,bF,zaE,D_]
theorem PV (h:h_ S x c):Ka [.hd c.i] S = .ok (.bl x.QZ) S:=by
 unfold Ka I.QZ;have e:=kL h ""
 have hi:=h.i;unfold jz at hi;simp?[fx,hi,e]
theorem F1 (h:h_ S x c)(d:Dj c):Kc [.hd c.i] S = .ok .bz (kJ S x.swap c):=by
 unfold Kc;rw[<-lY (y:=x.swap) h d rfl rfl];have hl:=bq h.i;have hi:=h.i;unfold jz at *
 simp?[fx,hi,hl,cR,fE,I.swap]
theorem Iw (h:h_ S x c)(d:Dj c)(n:Str):Pd [.hd c.i,.str n] S = .ok .bz (kJ S (x.gO n) c):=by
 unfold Pd I.gO;have hl:=bq h.i;have hi:=h.i;by_cases hn:x.o6=n
 ·rw[if_pos hn,<-lY (x:=x) (y:={ x with o6:= "" }) h d rfl rfl]
  unfold jz at *
  simp?[fx,hi,hl,cR,fE,hn]
 ·rw[if_neg hn,<-lY (x:=x) (y:={ x with wR:= "" }) h d rfl rfl]
  unfold jz at *
  simp?[fx,hi,hl,cR,fE,hn]
theorem aeM (h:h_ S x c)(d:Dj c)(n:Str):UM [.hd c.i,.str n] S = .ok .bz (kJ S (x.Dv n) c):=by
 unfold UM I.Dv;have hl:=bq h.i;have hi:=h.i;by_cases hn:x.o6=""
 ·rw[if_pos hn,<-lY (x:=x) (y:={x with o6:=n}) h d rfl rfl]
  unfold jz at *
  simp?[fx,hi,hl,cR,fE,hn]
 ·rw[if_neg hn,<-lY (x:=x) (y:={x with wR:=n}) h d rfl rfl]
  unfold jz at *
  simp?[fx,hi,hl,cR,fE,hn]
end
structure B where
 k:Str
 r:Int
 rp:Bool
 w:Str
 Lc:Str
 en:Str
noncomputable def B.t (b:B):Tr:=.tp [.str "ball",.str b.k,.int b.r,.bl b.rp,.str b.w,.str b.Lc,.str b.en]
noncomputable def dI:Option Str->Tr|none=>.bz|some s=>.str s
noncomputable def Iz (k:Str)(r:Int):Bool:=if r=4 then true else if r=6 then decide (k="bat" \/ k="no") else false
noncomputable def PX (k:Str)(r:Int)(rp:Bool)(w:Str):Bool:=if w="" then true else if rp=true then false else if w="run" then true else if r≠0 then false else if w="stumped" \/ w="hit" then decide (k="bat" \/ k="wide") else decide (k="bat")
noncomputable def B.zk (b:B):Option Str:=if (b.rp && !Iz b.k b.r)=true then some "rope" else if PX b.k b.r b.rp b.w=true then none else some "way"
theorem aeN (k:Str)(r:Int)(S:Cs):HQ [.str k,.int r] S = .ok (.bl (Iz k r)) S:=by
 unfold HQ Iz;simp?[zaA,zaL,bF,zaE,D_]
theorem ajR (k:Str)(r:Int)(rp:Bool)(w:Str)(S:Cs):HS [.str k,.int r,.bl rp,.str w] S = .ok (.bl (PX k r rp w)) S:=by
 unfold HS PX;by_cases h1:w=""
 ·simp?[h1]
 ·cases rp with
  |true=>simp?[h1]
  |false =>
   by_cases h2:w="run"
   ·simp?[fx,h2]
   ·by_cases h3:r=0
    ·by_cases h4:w="stumped" \/ w="hit"
     ·simp?[fx,h1,h2,h3,h4,zaA,zaL,bF,zaE,D_,ne_eq]
     ·simp?[fx,h1,h2,h3,h4,zaA,zaL,bF,zaE,D_,ne_eq]
    ·simp?[fx,h1,h2,h3,ne_eq]
theorem UY (b:B)(S:Cs):HU [b.t] S = .ok (dI b.zk) S:=by
 unfold HU B.t B.zk;have e1:=λS=>aeN b.k b.r S
 have e2:=λS=>ajR b.k b.r b.rp b.w S
 obtain⟨k,r,rp,w,Lc,en⟩:=b;simp only at e1 e2 ⊢
 cases rp with
 |false =>
  cases h2:PX k r false w<;>simp?[e1,e2,h2,dI,zbT]
 |true =>
  cases h1:Iz k r
  ·simp?[e1,e2,h1,dI,zci]
  ·cases h2:PX k r true w<;>simp?[e1,e2,h1,h2,dI,zci]
structure By where
 wU:Int
 ext:Int
 cha:Int
noncomputable def Dw (u:U)(k:Str)(r:Int):By:=if k="bat" then ⟨r,0,r⟩ else if k="wide" then ⟨0,u.w+r,u.w+r⟩ else if k="no" then ⟨r,u.n,u.n+r⟩ else if k="nobye" then ⟨0,u.n+r,u.n⟩ else ⟨0,r,0⟩
noncomputable def se (k:Str):Bool:=decide (k="bat" \/ k="bye" \/ k="leg")
noncomputable def o7 (r:Int)(rp:Bool):Bool:=if r % 2=1 then !rp else false
noncomputable def Y6 (w:Str):Bool:=!decide (w="" \/ w="run")
noncomputable def B.UZ (u:U)(b:B):Int:=(Dw u b.k b.r).wU+(Dw u b.k b.r).ext
noncomputable def B.F2 (u:U)(b:B):Tr:=.tp [.int (b.UZ u),.int (Dw u b.k b.r).wU,.int (Dw u b.k b.r).ext,.int (Dw u b.k b.r).cha,.bl (se b.k),.bl (!decide (b.k="wide")),.bl (o7 b.r b.rp),.bl (Y6 b.w)]
theorem anM (u:U)(k:Str)(r:Int)(S:Cs):H_ [u.t,.str k,.int r] S = .ok (.tp [.int (Dw u k r).wU,.int (Dw u k r).ext,.int (Dw u k r).cha]) S:=by
 unfold H_ U.t Dw;by_cases h1:k="bat"
 ·simp?[fx,h1]
 ·by_cases h2:k="wide"
  ·simp?[fx,h2]
  ·by_cases h3:k="no"
   ·simp?[fx,h3]
   ·by_cases h4:k="nobye"
    ·simp?[fx,h4]
    ·simp?[fx,h1,h2,h3,h4]
theorem PY (u:U)(b:B)(S:Cs):Dm [u.t,b.t] S = .ok (b.F2 u) S:=by
 unfold Dm B.F2 B.UZ B.t se o7 Y6;have e1:=λS=>anM u b.k b.r S
 unfold U.t at *
 simp?[e1,zaA,zaL,bF,zaE,D_,in3]
noncomputable def I.Ea (x:I)(b:B):Str:=if b.w="run" then b.Lc else if b.w="" then "" else x.o6
section
variable {S:Cs}{x:I}{c:L3}
theorem U0 (h:h_ S x c)(b:B):UJ [.hd c.i,b.t] S = .ok (.str (x.Ea b)) S:=by
 unfold UJ I.Ea B.t;have hi:=h.i;unfold jz at hi;by_cases h1:b.w="run"
 ·simp?[fx,hi,h1]
 ·by_cases h2:b.w="" <;> simp?[fx,hi,h1,h2]
end
noncomputable def gQ (l:List Str)(n:Str):List Str:=if n∈l then l else l++[n]
noncomputable def jt (l:List (Str×Int))(n:Str):Int:=match l with|[]=>0 | (k,v)::r=>if k=n then v else jt r n
noncomputable def nB (l:List (Str×Int))(n:Str)(v:Int):List (Str×Int):=if (l.any λp=>decide (p.1=n))=true then l.map (λp=>if p.1=n then (p.1,v) else p) else l++[(n,v)]
theorem Dy:d8 (iF l) (.inr n) (.bl true)=iF (gQ l n):=by
 unfold d8 gQ;have h1:((iF l).any λkv=>decide (kv.1=(.inr n:dh)))=decide (n∈l):=by
  unfold iF;rw[zcE,zaU,zbW];simp only[Function.comp,decide_eq_true_eq];exact⟨λ⟨x,h,e⟩=>zdt e ▸ h,λh=>⟨n,h,rfl⟩⟩
 rw[h1];by_cases h:n∈l
 ·rw[if_pos (decide_eq_true h),if_pos h]
  unfold iF;rw[zaK];apply zbR
  intro x hx;simp only[Function.comp];split<;>rfl
 ·rw[if_neg (by simpa using h),if_neg h]
  unfold iF;rw[zaD];rfl
theorem sX:∀{l:List (Str×Int)},(aH (.inr n) (sW l)).getD (.int 0) = .int (jt l n)
 |[]=>rfl
 | (k,v)::r=>by
  unfold sW;rw[rW];unfold aH jt;by_cases h:k=n
  ·subst h;rw[if_pos rfl,if_pos rfl];rfl
  ·rw[if_neg (λz=>h (zdt z)),if_neg h]
   exact sX (n:=n) (l:=r)
theorem IA:d8 (sW l) (.inr n) (.int v)=sW (nB l n v):=by
 unfold d8 nB;have h1:((sW l).any λkv=>decide (kv.1=(.inr n:dh)))=l.any λp=>decide (p.1=n):=by
  unfold sW;rw[zcE];congr 1
  funext p
  simp only[Function.comp,Sum.inr.injEq]
 rw[h1];split
 ·unfold sW
  rw[zaK,zaK];apply zbR
  intro x hx;simp only[Function.comp,Sum.inr.injEq];split<;>rfl
 ·unfold sW
  rw[zaD];rfl
theorem PZ:(iF l).length=l.length:=by unfold iF;simp
theorem U1:(sW l).length=l.length:=by unfold sW;simp
noncomputable def I.zl (x:I)(n:Str):I:={x with wD:=n,gU:=nB x.gU n (jt x.gU n+1)}
noncomputable def I.xJ (x:I)(n e:Str):I:=
 let y:=({x with outs:=gQ x.outs n,wk:=x.wk+1}:I).gO n
 if (if y.o6="" then "strike" else "other")=e then y else y.swap
noncomputable def I.xK (x:I)(o:Int):I:=if o<=x.ba+1 then { x with ov:=x.ov+1,ba:=0,o6:=x.wR,wR:=x.o6,Y4:=x.wD,wD:= "" } else {x with ba:=x.ba+1}
noncomputable def I.qg (u:U)(x:I)(b:B):I:=
 let x1:I:={x with fG:=x.fG+b.UZ u}
 let x2:=if o7 b.r b.rp=true then x1.swap else x1
 let x3:=if x.Ea b="" then x2 else x2.xJ (x.Ea b) (if b.w="run" then b.en else "strike")
 if se b.k=true then x3.xK u.o else x3
section
variable {S:Cs}{x:I}{c:L3}
theorem U3 (h:h_ S x c)(d:Dj c)(n:Str)(hl:x.gU.length<=1000):UN [.hd c.i,.str n] S = .ok .bz (kJ S (x.zl n) c):=by
 unfold UN;have hi:=h.i;have hs:=h.s;have V0:=bq h.i;have hz:(x.gU.length<sizeLine)=True:=iP (by omega)
 have e:((S.set c.i (.fH "Innings" (jz {x with wD:=n} c))).set c.s (.gS (sW (nB x.gU n (jt x.gU n+1)))))=kJ S (x.zl n) c:=by
  unfold kJ I.zl;rw[jo (i:=c.o) (l:=S.set c.i _) (by rw[dB d.io];exact h.o)]
  rfl
 unfold jz at hi e;simp only[↓bp,bx,simprocAttr,fx,hi,hs,V0,cR,fE,dB d.is,d.is,d.is.symm,ne_eq,zbO,sX,IA,U1,hz] at e ⊢
 rw[e]
theorem aeO (h:h_ S x c)(d:Dj c)(n en:Str)(hl:x.outs.length<=1000):UK [.hd c.i,.str n,.str en] S = .ok .bz (kJ S (x.xJ n en) c):=by
 unfold UK;have hi:=h.i;have ho:=h.o;have hol:=bq h.o;have hz:(x.outs.length<sizeLine)=True:=iP (by omega)
 generalize hy:({x with outs:=gQ x.outs n,wk:=x.wk+1}:I)=y
 have e:((S.set c.o (.gS (iF (gQ x.outs n)))).set c.i (.fH "Innings" (jz {x with wk:=x.wk+1} c)))=kJ S y c:=by
  rw[<-hy];unfold kJ;rw[zda _ _ d.io,jo (i:=c.s) (by rw[dB d.is,dB d.os];exact h.s)]
  rfl
 have hY:=lM (y:=y) h d
 have e1:=Iw hY d n;rw[nY d] at e1;have hZ:=lM (y:=y.gO n) h d
 have hzi:=hZ.i;have e2:=F1 hZ d;rw[nY d] at e2;have P1:=hY.i;have ef:x.xJ n en=if (if (y.gO n).o6="" then "strike" else "other")=en then y.gO n else (y.gO n).swap:=by unfold I.xJ;rw[hy]
 rw[ef];generalize y.gO n=z at *
 unfold jz at hi e hzi P1;simp only[↓bp,bx,simprocAttr,fx,hi,ho,hol,cR,fE,dB d.io.symm,d.io,d.io.symm,ne_eq,Dy,PZ,hz] at e ⊢
 simp?[fx,e,e1,P1,hzi];by_cases hf:z.o6=""
 ·by_cases he:en="strike"
  ·subst he;simp?[fx,hf]
  ·have he':¬ "strike"=en:=λq=>he q.symm
   simp?[fx,hf,he',hzi,e2]
 ·by_cases he:en="other"
  ·subst he;simp?[fx,hf]
  ·have he':¬ "other"=en:=λq=>he q.symm
   simp?[fx,hf,he',hzi,e2]
theorem aeP (h:h_ S x c)(d:Dj c)(o:Int):UL [.hd c.i,.int o] S = .ok .bz (kJ S (x.xK o) c):=by
 unfold UL I.xK;have hi:=h.i;have V0:=bq h.i;by_cases ho:o<=x.ba+1
 ·rw[if_pos ho]
  generalize hy:({x with ov:=x.ov+1,ba:=0}:I)=y
  have e:=lY (y:=y) h d (by rw[<-hy]) (by rw[<-hy])
  have hY:=lM (y:=y) h d
  have e1:=F1 hY d;rw[nY d] at e1;have P1:=hY.i;have hZ:=lM (y:=y.swap) h d
  have hZi:=hZ.i;have hZl:=bq hZ.i;have e2:=lY (y:={ y.swap with Y4:=y.wD,wD:= "" }) hZ d rfl rfl
  rw[nY d] at e2;subst hy;unfold jz at hi e P1 hZi e2;simp only[I.swap] at e1 hZi hZl e2 ⊢
  have wO:¬ x.ba+1<o:=by omega
  simp?[fx,hi,V0,cR,fE,ho,ge_iff_le,e,e1,P1,hZi,hZl,e2]
 ·rw[if_neg ho]
  have e:=lY (y:={x with ba:=x.ba+1}) h d rfl rfl
  have P1:=(lM (y:={x with ba:=x.ba+1}) h d).i
  unfold jz at hi e P1;simp?[fx,hi,V0,cR,fE,ho,ge_iff_le,e,P1]
theorem aeR (h:h_ S x c)(d:Dj c)(u:U)(b:B)(hl:x.outs.length<=1000):Ia [.hd c.i,u.t,b.t] S = .ok (.str (x.Ea b)) (kJ S (x.qg u b) c):=by
 have e1:=PY u b S;have e2:=U0 h b;have hi:=h.i;have e3:=lY (y:=({x with fG:=x.fG+b.UZ u}:I)) h d rfl rfl
 obtain⟨y,hy⟩:∃y:I,y = {x with fG:=x.fG+b.UZ u}:=⟨_,rfl⟩
 obtain⟨z,hz⟩:∃z,z=if o7 b.r b.rp=true then y.swap else y:=⟨_,rfl⟩
 obtain⟨w,hw⟩:∃w,w=if x.Ea b="" then z else z.xJ (x.Ea b) (if b.w="run" then b.en else "strike"):=⟨_,rfl⟩
 have hp:x.qg u b=if se b.k=true then w.xK u.o else w:=by
  unfold I.qg;simp only[hw,hz,hy]
 have hzo:z.outs=x.outs:=by rw[hz,hy];split<;>rfl
 have hY:=lM (y:=y) h d
 have hZ:=lM (y:=z) h d
 have hW:=lM (y:=w) h d
 have e4:=F1 hY d;have e5:=λn en=>aeO hZ d n en (by rw[hzo];exact hl)
 have e6:=aeP hW d u.o;rw[nY d] at e4 e6;simp only[nY d] at e5;have P1:=hY.i;have hZi:=hZ.i;have hWi:=hW.i;have g0:∀S,aL (b.F2 u) (.int 0) S = .ok (.int (b.UZ u)) S:=λ_=>rfl
 have g6:∀S,aL (b.F2 u) (.int 6) S = .ok (.bl (o7 b.r b.rp)) S:=λ_=>rfl
 have g4:∀S,aL (b.F2 u) (.int 4) S = .ok (.bl (se b.k)) S:=λ_=>rfl
 have gu:∀S,aL u.t (.int 0) S = .ok (.int u.o) S:=λ_=>rfl
 have gw:∀S,aL b.t (.int 4) S = .ok (.str b.w) S:=λ_=>rfl
 have ge:∀S,aL b.t (.int 6) S = .ok (.str b.en) S:=λ_=>rfl
 rw[hp];unfold jz at hi e3 P1 hZi hWi;dsimp only at e3
 rw[<-hy] at e3;clear hp hzo hY hZ hW hy hl
 unfold Ia;generalize x.Ea b=o at *
 generalize b.F2 u=sT at *
 generalize u.t=uT at *
 generalize b.t=bT at *
 generalize b.UZ u=gt at *
 generalize hI1:cy (mB (ai aL (aa 3) (mC (.int 6)))) _ _=I1
 generalize hI2:cy (mB (ai (bY true) (aa 4) (mC (.str "")))) _ _=I2
 generalize hI3:cy (mB (ai aL (aa 3) (mC (.int 4)))) _ _=I3
 have k1:I1 [some (.hd c.i),some uT,some bT,some sT,some (.str o)] (kJ S y c) = .nx [some (.hd c.i),some uT,some bT,some sT,some (.str o)] (kJ S z c):=by
  rw[<-hI1,hz];cases hcr:o7 b.r b.rp<;>rw[hcr] at g6<;>simp?[fx,↓g6,P1,e4]
 have k2:I2 [some (.hd c.i),some uT,some bT,some sT,some (.str o)] (kJ S z c) = .nx [some (.hd c.i),some uT,some bT,some sT,some (.str o)] (kJ S w c):=by
  rw[<-hI2,hw];by_cases ho:o=""
  ·simp?[fx,ho]
  ·by_cases hr:b.w="run"
   ·rw[hr] at gw
    simp?[fx,ho,hr,↓gw,↓ge,hZi,e5]
   ·simp?[fx,ho,hr,↓gw,hZi,e5]
 have k3:I3 [some (.hd c.i),some uT,some bT,some sT,some (.str o)] (kJ S w c) = .nx [some (.hd c.i),some uT,some bT,some sT,some (.str o)] (kJ S (if se b.k=true then w.xK u.o else w) c):=by
  rw[<-hI3];cases hf:se b.k<;>rw[hf] at g4<;>simp?[fx,↓g4,↓gu,hWi,e6]
 generalize kJ S (if se b.k=true then w.xK u.o else w) c=SF at *
 simp?[fx,e1,e2,hi,↓g0,e3,k1,k2,k3]
end
inductive gY where
 |c9 (t f o b:Str)|mH (b:B)|mJ (n:Str)|qh (n:Str)|qj (n:Str)|swap (a b:Str)|fV|ia|lZ
noncomputable def gY.t:gY->Tr
 |.c9 t f o b=>.tp [.str "start",.str t,.str f,.str o,.str b]
 |.mH b=>b.t
 |.mJ n=>.tp [.str "in",.str n]
 |.qh n=>.tp [.str "bowl",.str n]
 |.qj n=>.tp [.str "hurt",.str n]
 |.swap a b=>.tp [.str "swap",.str a,.str b]
 |.fV=>.tp [.str "declare"]
 |.ia=>.tp [.str "follow"]
 |.lZ=>.tp [.str "close"]
noncomputable def oK (l:List Str):Tr:=.ls (l.map .str)
noncomputable def I.je (x:I)(b:B):Option Str:=if x.QZ=true then some "empty" else if x.wD="" then some "bowler" else match b.zk with|some f=>some f|none=>if b.w="run" /\ x.dD b.Lc=false then some "who" else none
noncomputable def I.Dz (x:I)(wU:List Str)(n:Str):Option Str:=if x.QZ=false then some "full" else if n∉wU then some "team" else if n∈x.outs then some "out" else if x.dD n=true then some "there" else none
noncomputable def I.ql (x:I)(P4:List Str)(sp:Int)(n:Str):Option Str:=if x.wD ≠ "" then some "bowling" else if n∉P4 then some "team" else if n=x.Y4 then some "twice" else if 0<sp/\sp<=jt x.gU n then some "spell" else none
noncomputable def I.nD (x:I)(u:U)(wU P4:List Str):gY->Option Str
 |.mH b=>x.je b
 |.mJ n=>x.Dz wU n
 |.qh n=>x.ql P4 u.s n
 |.qj n=>if x.dD n=true then none else some "who"
 |_=>none
theorem DA {α:Type}(f:α -> Bool):∀l:List α,rL (l.map λa=>.bl (f a))=some (l.map f)
 |[]=>rfl
 |a::r=>by rw[rW];unfold rL;rw[DA f r];rfl
theorem DB {α:Type}(f:α -> Int):∀l:List α,rK (l.map λa=>.int (f a))=some (l.map f)
 |[]=>rfl
 |a::r=>by rw[rW];unfold rK;rw[DB f r];rfl
section
variable {S:Cs}{x:I}{c:L3}
theorem Kd (h:h_ S x c)(b:B):HV [.hd c.i,b.t] S = .ok (dI (x.je b)) S:=by
 unfold HV I.je;have e1:=PV h;have e2:=UY b S;have e3:=λn=>kL h n
 have hi:=h.i;unfold jz at hi;cases hg:x.QZ
 ·by_cases hb:x.wD=""
  ·simp?[fx,hi,e1,hg,hb,dI]
  ·cases hf:b.zk with
   |some f=>unfold B.t at *;simp?[fx,hi,e1,hg,hb,e2,hf,dI]
   |none =>
    by_cases hr:b.w="run"
    ·unfold B.t at *
     rw[hr] at e2;cases hs:x.dD b.Lc<;>simp?[fx,hi,e1,hg,hb,e2,hf,dI,hr,e3,hs]
    ·unfold B.t at *;simp?[fx,hi,e1,hg,hb,e2,hf,dI,hr]
 ·simp?[fx,hi,e1,hg,dI]
theorem U4 (h:h_ S x c)(wU:List Str)(n:Str):HW [.hd c.i,oK wU,.str n] S = .ok (dI (x.Dz wU n)) S:=by
 unfold HW I.Dz oK;have e1:=PV h;have e3:=λn=>kL h n
 have hi:=h.i;have ho:=h.o;unfold jz at hi;cases hg:x.QZ
 ·simp?[fx,hi,e1,hg,dI]
 ·by_cases hb:n∈wU
  ·by_cases hn:n∈x.outs
   ·simp?[fx,hi,ho,e1,hg,hb,hn,gj,bF,gi,kK,dI]
   ·cases hs:x.dD n<;>simp?[fx,hi,ho,e1,e3,hg,hb,hn,hs,gj,bF,gi,kK,dI]
  ·simp?[fx,hi,e1,hg,hb,gj,bF,gi,dI]
theorem Ke (h:h_ S x c)(P4:List Str)(sp:Int)(n:Str):HX [.hd c.i,oK P4,.int sp,.str n] S = .ok (dI (x.ql P4 sp n)) S:=by
 unfold HX I.ql oK;have hi:=h.i;have hs:=h.s;unfold jz at hi;by_cases hw:x.wD=""
 ·by_cases hb:n∈P4
  ·by_cases ha:n=x.Y4
   ·subst ha;simp?[fx,hi,hw,hb,gj,bF,gi,dI,ne_eq]
   ·by_cases h0:0<sp
    ·by_cases h1:sp<=jt x.gU n<;>simp?[fx,hi,hs,hw,hb,ha,h0,h1,gj,bF,gi,sX,dI,ne_eq]
    ·simp?[fx,hi,hs,hw,hb,ha,h0,gj,bF,gi,sX,dI,ne_eq]
  ·simp?[fx,hi,hw,hb,gj,bF,gi,dI,ne_eq]
 ·simp?[fx,hi,hw,dI,ne_eq]
noncomputable def gY.zm:gY->Bool|.mH _=>true|.mJ _=>true|.qh _=>true|.qj _=>true|.fV=>true|_=>false
theorem P5 (h:h_ S x c)(u:U)(wU P4:List Str)(e:gY)(he:e.zm=true):HY [.hd c.i,u.t,oK wU,oK P4,e.t] S = .ok (dI (x.nD u wU P4 e)) S:=by
 unfold HY;have e1:=λb=>Kd h b
 have e2:=λn=>U4 h wU n
 have e3:=λsp n=>Ke h P4 sp n
 have e4:=λn=>kL h n
 have hi:=h.i;unfold jz at hi;cases e with
 |mH b =>
  have e1:=e1 b;unfold gY.t I.nD;generalize dI (x.je b)=z at *
  unfold B.t at *
  simp?[fx,e1]
 |mJ n =>
  have e2:=e2 n;unfold gY.t I.nD;simp?[fx,e2]
 |qh n =>
  have e3:=λsp=>e3 sp n
  unfold gY.t I.nD U.t;simp?[fx,e3]
 |qj n =>
  have e4:=e4 n;unfold gY.t I.nD;cases hs:x.dD n<;>simp?[fx,hi,e4,hs,dI]
 |fV=>unfold gY.t I.nD;simp?[fx,dI]
 |c9 _ _ _ _=>cases he
 |swap _ _=>cases he
 |ia=>cases he
 |lZ=>cases he
theorem aeS (h:h_ S x c)(ps:List Str)(hl:ps.length<=1000):UO [.hd c.i,oK ps] S = .ok (.bl (x.left ps)) S:=by
 unfold UO oK;have e3:=λn=>kL h n
 have hi:=h.i;have ho:=h.o;unfold jz at hi;have hz:(ps.length<=sizeLine)=True:=bO (by omega)
 simp only[B8,gK,aD,bL,af,gx,qS,aa,aj,iL,xA,R.d7,R.gG,iO,rW,zaJ,zbX,Hv,zar,zba,Nat.reduceAdd,Nat.reduceSub,zcr,zaz,zaX,zaF,Option.join,zcn,id_eq,zaw];rw[qU [] (λτ=>∃v,τ=[some (.hd c.i),v]) (λt=>match t with|.str n=>.bl (!decide (n∈x.outs) && !x.dD n)|_=>.bz) (λ_=>true) (ps.map .str) _ [] ⟨_,rfl⟩ ?_ (by simp;omega)]
 ·have e:((ps.map Tr.str).filter (λ_=>true)).map (λt=>match t with|.str n=>(.bl (!decide (n∈x.outs) && !x.dD n):Tr)|_=>.bz)=ps.map λn=>.bl (!decide (n∈x.outs) && !x.dD n):=by
   rw[zbS.mpr (λ_ _=>rfl),zaK];rfl
  rw[Hv,e];simp only[R.d7,SM,E6,DA,R.gG,uA,zad,hz,ite_true];unfold I.left;rw[zcE];rfl
 ·rintro t ht τ ⟨v,rfl⟩
  obtain⟨n,hn,rfl⟩:=zbw.mp ht;refine⟨[some (.hd c.i),some (.str n)],⟨_,rfl⟩,rfl,rfl,λ_=>?_⟩
  by_cases hno:n∈x.outs
  ·simp?[fx,hi,ho,kK,hno,zbT]
  ·cases hs:x.dD n<;>simp?[fx,hi,ho,kK,hno,e3,hs,zci]
end
noncomputable def lN (c:L3):List Nat:=[c.i,c.o,c.s]
noncomputable def fp (y:Ly):List Nat:=y.a::y.k::y.p::y.l::y.cs.flatMap lN
noncomputable def mF (m:M)(y:Ly):List (Str×Tr):=[("rules",m.ru.t),("sides",cT m.t0 m.t1 m.p0 m.p1),("known",.hd y.k),("played",.hd y.p),("followed",.bl m.Y5),("closed",.bl m.clo),("balls_told",.hd y.l)]
structure e_ (S:Cs) (m:M) (y:Ly):Prop where
 a:S[y.a]? = some (.fH "Match" (mF m y))
 k:S[y.k]? = some (.aM (m.kn.map .str))
 p:S[y.p]? = some (.aM (y.cs.map λc=>.hd c.i))
 l:S[y.l]? = some (.aM m.fN)
 len:y.cs.length=m.pl.length
 mJ:∀(j:Nat) x c,m.pl[j]? = some x->y.cs[j]? = some c->h_ S x c
 nd:(fp y).Nodup
noncomputable def gW (m:M):Option I:=match m.pl.getLast? with|some x=>if x.en="" then some x else none|none=>none
noncomputable def U5 (m:M)(s:Int):Int:=((m.pl.filter λx=>decide (x.bW=s)).map (·.fG)).sum
noncomputable def wF (m:M)(s:Int):Int:=U5 m s - U5 m (1 - s)
noncomputable def f_ (m:M):Int:=match m.pl.getLast? with|some x=>x.bW|none=>0
noncomputable def sf (m:M):Bool:=if m.clo=true then true else if (gW m).isSome=true then false else if m.pl.length=3/\2 * m.ru.i=4 then decide (wF m (f_ m)<0) else decide (2 * m.ru.i<=m.pl.length)
theorem ju {m:M}{y:Ly}(hl:y.cs.length=m.pl.length):(m.pl=[]/\y.cs=[])\/∃fX x ci c,m.pl=fX++[x]/\y.cs=ci++[c]/\ci.length=fX.length:=by
 rcases zcc m.pl with h|⟨fX,x,h⟩
 ·exact .inl ⟨h,by rw[h] at hl;simpa using hl⟩
 ·rcases zcc y.cs with h2|⟨ci,c,h2⟩
  ·rw[h,h2] at hl;simp at hl
  ·refine .inr ⟨fX,x,ci,c,by simpa using h,by simpa using h2,?_⟩
   rw[h,h2] at hl;simpa using hl
theorem kM {α:Type}(l:List α)(a:α):jK (l++[a]) (-1)=some a:=by
 unfold jK zK;rw[if_neg (by decide),zak,zbo]
 rw[if_pos (by omega)]
 simp only[zcn];rw[show ((-1:Int)+((l.length+1:Nat):Int)).toNat=l.length by omega]
 simp
theorem dF {α:Type}(l:List α)(a:α):(l++[a])[l.length]? = some a:=by simp
section
variable {S:Cs}{m:M}{y:Ly}
theorem e_.rm (h:e_ S m y)(e1:m.pl=fX++[x])(e2:y.cs=ci++[c])(e3:ci.length=fX.length):h_ S x c:=h.mJ fX.length x c (by rw[e1,dF]) (by rw[e2,<-e3,dF])
theorem Y7 {α β:Type}{f:α -> List β}:∀{l:List α},(l.flatMap f).Nodup->∀c∈l,(f c).Nodup
 |[],_,c,h=>absurd h (by simp)
 |a::r,h,c,hc=>by
  rw[zcZ] at h;have h':=zcl.mp h;rcases zap.mp hc with rfl|hc
  ·exact h'.1
  ·exact Y7 h'.2.1 c hc
theorem DC (h:(fp y).Nodup)(hc:c∈y.cs):Dj c/\c.i≠y.a/\c.i≠y.k/\c.i≠y.p/\c.i≠y.l/\c.o≠y.a/\c.o≠y.k/\c.o≠y.p/\c.o≠y.l/\c.s≠y.a/\c.s≠y.k/\c.s≠y.p/\c.s≠y.l:=by
 unfold fp at h;simp only[zbD,zap,zbx,not_or,not_exists,not_and] at h;obtain⟨⟨_,_,_,ha⟩,⟨_,_,hk⟩,⟨_,hp⟩,hl,hn⟩:=h
 have q:∀n∈lN c,n≠y.a/\n≠y.k/\n≠y.p/\n≠y.l:=λn hn=>⟨λz=>ha c hc (z ▸ hn),λz=>hk c hc (z ▸ hn),λz=>hp c hc (z ▸ hn),λz=>hl c hc (z ▸ hn)⟩
 have d:(lN c).Nodup:=by
  exact Y7 hn c hc
 unfold lN at d q;simp only[zbD,zap,zaC,or_false,not_or] at d;obtain⟨a1,a2,a3,a4⟩:=q c.i (by simp)
 obtain⟨b1,b2,b3,b4⟩:=q c.o (by simp)
 obtain⟨c1,c2,c3,c4⟩:=q c.s (by simp)
 exact⟨⟨d.1.1,d.1.2,d.2.1⟩,a1,a2,a3,a4,b1,b2,b3,b4,c1,c2,c3,c4⟩
noncomputable def P6 (m:M)(y:Ly):Tr:=match m.pl.getLast?,y.cs.getLast? with|some x,some c=>if x.en="" then .hd c.i else .bz|_,_=>.bz
theorem fW (h:e_ S m y)(hs:m.pl.length<=1000):jr [.hd y.a] S = .ok (P6 m y) S:=by
 unfold jr P6;have ha:=h.a;have hp:=h.p;have hz:(m.pl.length<=sizeLine)=True:=bO (by omega)
 unfold mF at ha;rcases ju h.len with⟨e1,e2⟩|⟨fX,x,ci,c,e1,e2,e3⟩
 ·rw[e1,e2]
  rw[e2] at hp;simp?[fx,ha,hp,List.getLast?_nil]
 ·have hi:=(h.rm e1 e2 e3).i
  rw[e1,e2];rw[e2,zaD,rW,zaJ] at hp;have hz:(ci.length+1<=sizeLine)=True:=bO (by rw[e1] at hs;simp at hs;omega)
  unfold jz at hi;have hn:¬ ((ci.length:Int)+1=0):=by omega
  by_cases he:x.en="" <;> simp?[fx,ha,hp,hi,he,hz,kM,List.getLast?_append,List.getLast?_singleton,Option.some_or,zak,zad,zcd,zce,hn,Int.ofNat_one]
end
structure Sz (m:M) (n:Nat):Prop where
 pl:m.pl.length<=n
 kn:m.kn.length<=n
 fN:m.fN.length<=n
 p0:m.p0.length<=11
 p1:m.p1.length<=11
 outs:∀x∈m.pl,x.outs.length<=n
 gU:∀x∈m.pl,x.gU.length<=n
 bW:∀x∈m.pl,x.bW=0\/x.bW=1
noncomputable def mK (m:M)(s:Int):Str:=if s=0 then m.t0 else m.t1
noncomputable def iG (m:M)(s:Int):List Str:=if s=0 then m.p0 else m.p1
theorem jv {m:M}{s:Int}(h:s=0\/s=1):jK [Tr.tp [.str m.t0,.ls (m.p0.map .str)],Tr.tp [.str m.t1,.ls (m.p1.map .str)]] s=some (.tp [.str (mK m s),.ls ((iG m s).map .str)]):=by rcases h with rfl|rfl<;>rfl
theorem IB {m:M}{s:Int}(h:s=0\/s=1):jK [Tr.tp [.str m.t0,.ls (m.p0.map .str)],Tr.tp [.str m.t1,.ls (m.p1.map .str)]] (1 - s)=some (.tp [.str (mK m (1 - s)),.ls ((iG m (1 - s)).map .str)]):=by rcases h with rfl|rfl<;>rfl
noncomputable def l_ (m:M):Option Int:=if m.pl=[] then none else if (gW m).isSome=true then none else if sf m=true then none else if m.Y5=true/\m.pl.length=2 then some (f_ m) else some (1 - f_ m)
noncomputable def mL:Option Int->Tr|none=>.bz|some i=>.int i
theorem aeT:sI 0 2=[.int 0,.int 1]:=rfl
noncomputable def A2 (m:M)(t:Str):Option Int:=if m.t0=t/\(m.pl=[]\/l_ m=some 0) then some 0 else if m.t1=t/\(m.pl=[]\/l_ m=some 1) then some 1 else none
noncomputable def nE (m:M)(t f o b:Str):Option Str:=if (gW m).isSome=true then some "going" else match A2 m t with
 |none=>some "turn"
 |some s=>if f∉iG m s\/o∉iG m s\/b∉iG m (1 - s) then some "team" else if f=o then some "alike" else none
theorem sY {m:M}{y:Ly}{fX:List I}{x:I}{ci:List L3}{c:L3}(e1:m.pl=fX++[x])(e2:y.cs=ci++[c]):P6 m y=if x.en="" then .hd c.i else .bz:=by
 unfold P6;rw[e1,e2];simp
theorem qm {m:M}{fX:List I}{x:I}(e1:m.pl=fX++[x]):gW m=if x.en="" then some x else none:=by
 unfold gW;rw[e1];simp
theorem gb {m:M}{y:Ly}(hl:y.cs.length=m.pl.length)(h:(gW m).isSome=false):P6 m y = .bz:=by
 rcases ju hl with⟨e1,e2⟩|⟨fX,x,ci,c,e1,e2,e3⟩
 ·unfold P6;rw[e1,e2];rfl
 ·rw[sY e1 e2]
  rw[qm e1] at h;split
  ·rename_i q;rw[if_pos q] at h;cases h
  ·rfl
theorem fO {m:M}{y:Ly}(hl:y.cs.length=m.pl.length)(h:(gW m).isSome=true):∃(fX:List I) (x:I) (ci:List L3) (c:L3),m.pl=fX++[x]/\y.cs=ci++[c]/\ci.length=fX.length/\x.en=("" : Str)/\P6 m y = .hd c.i/\gW m=some x:=by
 rcases ju hl with⟨e1,e2⟩|⟨fX,x,ci,c,e1,e2,e3⟩
 ·unfold gW at h;rw[e1] at h;cases h
 ·have hx:x.en="" := by
   rw[qm e1] at h;by_cases q:x.en=""
   ·exact q
   ·rw[if_neg q] at h;cases h
  exact⟨fX,x,ci,c,e1,e2,e3,hx,by rw[sY e1 e2,if_pos hx],by rw[qm e1,if_pos hx]⟩
section
variable {S:Cs}{m:M}{y:Ly}{n:Nat}
theorem F3 (h:e_ S m y):wA [.hd y.a] S = .ok (.int (2 * m.ru.i)) S:=by
 unfold wA;have ha:=h.a;unfold mF U.t at ha;simp?[fx,ha]
theorem U6 (h:e_ S m y)(s:Int)(hs:m.pl.length<=1000):Dg [.hd y.a,.int s] S = .ok (.int (U5 m s)) S:=by
 unfold Dg;refine pV (S1:=S) (t:=.int (U5 m s)) ?_ (zbt ..) (by unfold B7;simp only[Av];rfl)
 have ha:=h.a;have hp:=h.p;unfold mF at ha;have hz:∀k:Nat,k<=1000->(k<=sizeLine)=True:=λk hk=>bO (by omega)
 rw[<-Hh (l:=m.pl) (λc:L3=>Tr.hd c.i) h.len] at hp
 simp only[B8,gK,aD,bL,af,gx,qS,aa,aj,bB,JF,iV,iL,xA,cu,R.d7,R.gG,iO,rW,zaJ,zbX,Hv,zar,zba,Nat.reduceAdd,Nat.reduceSub,zcr,zaz,zaX,zaF,Option.join,zcn,id_eq,zaw,ha,hp,fx,ahT,if_true];rw[eX (by rw[hp]) (λτ=>∃v,τ=[some (.int s),v]) (λp:I×L3=>Tr.hd p.2.i) (λp=>.int p.1.fG) (λp=>decide (p.1.bW=s)) _ _ [] ⟨_,rfl⟩ ?_ (by
  rw[zba,List.length_zip,h.len];omega)]
 ·rw[Hv,Ff (λx:I=>decide (x.bW=s)) (λx=>Tr.int x.fG) h.len]
  simp only[R.d7,SK,xA,DB,R.gG,uA];rfl
 ·rintro⟨x,c⟩ hxc τ ⟨v,rfl⟩
  obtain⟨j,h1,h2⟩:=Nj hxc;have hi:=(h.mJ j x c h1 h2).i
  unfold jz at hi;refine⟨[some (.int s),some (.hd c.i)],⟨_,rfl⟩,rfl,?_,λ_=>?_⟩<;>simp?[fx,hi]
theorem F4 (h:e_ S m y)(s:Int)(hs:m.pl.length<=1000):zh [.hd y.a,.int s] S = .ok (.int (wF m s)) S:=by
 unfold zh wF;have e1:=λs=>U6 h s hs
 have ha:=h.a;unfold mF at ha;simp?[fx,ha,e1,dJ]
theorem F5 (h:e_ S m y)(z:Sz m n)(hn:n<=1000):Dh [.hd y.a] S = .ok (.bl (sf m)) S:=by
 unfold Dh sf;have hs:m.pl.length<=1000:=zai z.pl hn
 have e1:=fW h hs;have e2:=F3 h;have e3:=λs=>F4 h s hs
 have ha:=h.a;have hp:=h.p;have hz:(y.cs.length<=sizeLine)=True:=bO (by rw[h.len];omega)
 unfold mF at ha;cases hc:m.clo
 ·cases hg:(gW m).isSome
  ·have eg:=gb h.len hg
   by_cases h3:m.pl.length=3
   ·have h3':((y.cs.length:Int)=3)=True:=eq_true (by rw[h.len,h3];rfl)
    by_cases h4:2 * m.ru.i=4
    ·rcases ju h.len with⟨a1,_⟩|⟨fX,x,ci,c,a1,a2,a3⟩
     ·rw[a1] at h3;cases h3
     ·have hi:=(h.rm a1 a2 a3).i
      unfold jz at hi;have hl:f_ m=x.bW:=by unfold f_;rw[a1];simp
      have h5:((ci.length:Int)+1=3)=True:=eq_true (by rw[a2,zak,zbo] at h3';have:=of_eq_true h3';omega)
      have L5:(ci.length+1<=sizeLine)=True:=by rw[a2,zak,zbo] at hz;exact hz
      rw[a2,zaD,rW,zaJ] at hp;simp?[fx,ha,hp,hi,hc,e1,eg,e2,e3,h4,h3,hl,L5,h5,zak,zad,kM,dJ,zcd,zce,V9,K9]
    ·have h4':¬ (2 * m.ru.i=4):=h4
     simp?[fx,ha,hp,hc,e1,eg,e2,h3,h4',hz,h3',zad,dJ,gGe,K9];simp only[h.len,h3];rfl
   ·have h3':((y.cs.length:Int)=3)=False:=eq_false (by rw[h.len];omega)
    simp?[fx,ha,hp,hc,e1,eg,e2,h3,hz,h3',zad,dJ,gGe,K9];simp only[h.len]
  ·obtain⟨fX,x,ci,c,a1,a2,a3,a4,a5,a6⟩:=fO h.len hg
   simp?[fx,ha,hc,e1,a5]
 ·simp?[fx,ha,hc]
theorem P7 (h:e_ S m y)(z:Sz m n)(hn:n<=1000):Di [.hd y.a] S = .ok (mL (l_ m)) S:=by
 unfold Di l_;have hs:m.pl.length<=1000:=zai z.pl hn
 have e1:=fW h hs;have e2:=F5 h z hn;have ha:=h.a;have hp:=h.p;have hz:(y.cs.length<=sizeLine)=True:=bO (by rw[h.len];omega)
 unfold mF at ha;rcases ju h.len with⟨a1,a2⟩|⟨fX,x,ci,c,a1,a2,a3⟩
 ·rw[a2] at hp
  simp?[fx,ha,hp,a1,mL]
 ·have sA:¬ m.pl=[]:=by rw[a1];simp
  have hi:=(h.rm a1 a2 a3).i
  unfold jz at hi;have hl:f_ m=x.bW:=by unfold f_;rw[a1];simp
  have L5:(ci.length+1<=sizeLine)=True:=by rw[a2,zak,zbo] at hz;exact hz
  have h0:¬ ((ci.length:Int)+1=0):=by omega
  rw[a2,zaD,rW,zaJ] at hp;cases hg:(gW m).isSome
  ·have eg:=gb h.len hg
   cases hd:sf m
   ·cases hf:m.Y5
    ·simp?[fx,ha,hp,hi,sA,e1,eg,e2,hd,hf,hl,L5,h0,zak,zad,kM,dJ,zcd,zce,mL]
    ·by_cases h2:m.pl.length=2
     ·have h5:((ci.length:Int)+1=2)=True:=eq_true (by rw[a1,zak,zbo,<-a3] at h2;omega)
      simp?[fx,ha,hp,hi,sA,e1,eg,e2,hd,hf,hl,L5,h0,h2,h5,zak,zad,kM,dJ,zcd,zce,mL]
     ·have h5:((ci.length:Int)+1=2)=False:=eq_false (by rw[a1,zak,zbo,<-a3] at h2;omega)
      simp?[fx,ha,hp,hi,sA,e1,eg,e2,hd,hf,hl,L5,h0,h2,h5,zak,zad,kM,dJ,zcd,zce,mL]
   ·simp?[fx,ha,hp,sA,e1,eg,e2,hd,L5,h0,zak,zad,zcd,zce,mL]
  ·obtain⟨fX,x,ci,c,b1,b2,b3,b4,b5,b6⟩:=fO h.len hg
   simp?[fx,ha,hp,sA,e1,b5,L5,h0,zak,zad,zcd,zce,mL]
theorem Y8 (h:e_ S m y)(z:Sz m n)(hn:n<=1000)(t:Str):Dl [.hd y.a,.str t] S = .ok (mL (A2 m t)) S:=by
 have e1:=P7 h z hn;have ha:=h.a;have hp:=h.p;have hs:m.pl.length<=1000:=zai z.pl hn
 have hz:(y.cs.length<=sizeLine)=True:=bO (by rw[h.len];omega)
 have h0:((y.cs.length:Int)=0)=(m.pl=[]):=by
  apply propext
  rw[h.len];constructor
  ·intro q;exact List.length_eq_zero_iff.mp (by omega)
  ·intro q;rw[q];rfl
 unfold Dl A2;generalize hT:mD _ _=T
 have key:∀s:Int,s=0\/s=1->T [some (.hd y.a),some (.str t),some (.int s)] S = .ok (decide (mK m s=t/\(m.pl=[]\/l_ m=some s))) S:=λs s01=>by
  have k5:=@jv m s s01
  unfold mF cT at ha;subst hT;generalize mK m s=tt at *
  by_cases h1:tt=t
  ·by_cases h3:m.pl=[]
   ·simp?[fx,ha,hp,h0,h1,h3,hz,k5,zad]
   ·cases hN:l_ m with
    |none =>
     rw[hN] at e1;simp?[fx,ha,hp,h0,h1,h3,hz,k5,zad,e1,mL]
    |some j =>
     rw[hN] at e1;simp?[fx,ha,hp,h0,h1,h3,hz,k5,zad,e1,mL,zbO,eq_comm,false_or,true_and]
  ·simp?[fx,ha,h1,k5]
 have t0:mK m 0=m.t0:=rfl
 have t1:mK m 1=m.t1:=rfl
 have a0:=key 0 (.inl rfl)
 have a1:=key 1 (.inr rfl)
 rw[t0] at a0;rw[t1] at a1;clear key
 by_cases c0:m.t0=t/\(m.pl=[]\/l_ m=some 0)
 ·rw[decide_eq_true c0] at a0
  rw[if_pos c0];simp?[aeT,a0,mL]
 ·rw[decide_eq_false c0] at a0
  rw[if_neg c0];by_cases c1:m.t1=t/\(m.pl=[]\/l_ m=some 1)
  ·rw[decide_eq_true c1] at a1
   rw[if_pos c1];simp?[aeT,a0,a1,mL]
  ·rw[decide_eq_false c1] at a1
   rw[if_neg c1];simp?[aeT,a0,a1,mL]
theorem Y9 (e:A2 m t=some s):s=0\/s=1:=by
 unfold A2 at e;split at e
 ·cases e;exact .inl rfl
 ·split at e
  ·cases e;exact .inr rfl
  ·cases e
theorem F6 (h:e_ S m y)(z:Sz m n)(hn:n<=1000)(t f o b:Str):HK [.hd y.a,(gY.c9 t f o b).t] S = .ok (dI (nE m t f o b)) S:=by
 unfold HK nE gY.t;have hs:m.pl.length<=1000:=zai z.pl hn
 have e1:=fW h hs;have e2:=Y8 h z hn t;have ha:=h.a;unfold mF cT at ha;cases hg:(gW m).isSome
 ·have eg:=gb h.len hg
  cases hs:A2 m t with
  |none=>rw[hs] at e2;simp?[fx,ha,e1,eg,e2,mL,dI]
  |some s =>
   rw[hs] at e2;have ajT:=Y9 hs;have k1:=@jv m s ajT
   have k2:=@IB m s ajT
   by_cases h1:f∈iG m s<;>by_cases h2:o∈iG m s<;>by_cases h3:b∈iG m (1 - s)<;>by_cases h4:f=o <;>
    simp?[fx,ha,e1,eg,e2,mL,dI,k1,k2,dJ,gj,bF,gi,h1,h2,h3,h4]
 ·obtain⟨fX,x,ci,c,b1,b2,b3,b4,b5,b6⟩:=fO h.len hg
  simp?[fx,ha,e1,b5,dI]
noncomputable def d_ (m:M)(e:gY):Option Str:=match gW m with
 |none=>some "none"
 |some x=>x.nD m.ru (iG m x.bW) (iG m (1 - x.bW)) e
theorem U7 (e:gY)(he:e.zm=true):∃w l,e.t = .tp (.str w::l)/\¬ w="start" /\ ¬ w="swap" /\ ¬ w="follow" /\ ¬ w="close" := by
 have h:∀w∈(["ball","in","bowl","hurt","declare"]:List Str),¬ w="start" /\ ¬ w="swap" /\ ¬ w="follow" /\ ¬ w="close" := by decide +kernel
 cases e<;>first | (cases he;done)|exact⟨_,_,rfl,h _ (by simp)⟩
theorem DE (h:e_ S m y)(z:Sz m n)(hn:n<=1000)(e:gY)(he:e.zm=true):r9 [.hd y.a,e.t] S = .ok (dI (if sf m=true then some "done" else d_ m e)) S:=by
 unfold r9;have hs:m.pl.length<=1000:=zai z.pl hn
 have e1:=fW h hs;have e2:=F5 h z hn;have ha:=h.a;unfold mF cT at ha;obtain⟨w,l,el,w1,w2,w3,w4⟩:=U7 e he;cases hd:sf m
 ·cases hg:(gW m).isSome
  ·have eg:=gb h.len hg
   have Ba:d_ m e=some ("none" : Str):=by
    unfold d_;cases hq:gW m with
    |none=>rfl
    |some x=>rw[hq] at hg;cases hg
   rw[el];simp?[fx,ha,e1,eg,e2,hd,Ba,dI,w1,w2,w3,w4]
  ·obtain⟨fX,x,ci,c,b1,b2,b3,b4,b5,b6⟩:=fO h.len hg
   have hI:=h.rm b1 b2 b3;have hi:=hI.i;unfold jz at hi;have U8:=z.bW x (by rw[b1];simp)
   have k1:=@jv m x.bW U8
   have k2:=@IB m x.bW U8
   have e3:=P5 hI m.ru (iG m x.bW) (iG m (1 - x.bW)) e he
   have Ba:d_ m e=x.nD m.ru (iG m x.bW) (iG m (1 - x.bW)) e:=by unfold d_;rw[b6]
   rw[<-Ba] at e3;unfold oK at e3;generalize d_ m e=r at *
   rw[el] at e3 ⊢
   simp?[fx,ha,hi,e1,b5,e2,hd,k1,k2,dJ,e3,w1,w2,w3,w4]
 ·simp?[fx,ha,e2,hd,dI]
end
noncomputable def bI (F:List Nat)(S S':Cs):Prop:=S.length<=S'.length/\∀j,j<S.length->j∉F->S'[j]? = S[j]?
theorem bI.refl:bI F S S:=⟨zaf _,λ_ _ _=>rfl⟩
theorem bI.trans (a:bI F S1 S2)(b:bI F S2 S3):bI F S1 S3:=⟨zai a.1 b.1,λj h1 h2=>(b.2 j (zan h1 a.1) h2).trans (a.2 j h1 h2)⟩
theorem bI.mono (a:bI F S S')(h:∀j∈F,j∈F'):bI F' S S':=⟨a.1,λj h1 h2=>a.2 j h1 λz=>h2 (h j z)⟩
theorem bI.at (a:bI F S S')(h:S[j]? = some c)(hj:j∉F):S'[j]? = some c:=by rw[a.2 j (bq h) hj];exact h
theorem bI.set (h:n∈F):bI F S (S.set n c):=⟨by simp,λj _ h2=>dB λz=>h2 (z ▸ h)⟩
theorem bI.rJ:bI F S (S++r):=⟨by simp,λj h1 _=>zaj h1⟩
theorem bI.kJ (h:∀j∈lN c,j∈F):bI F S (kJ S x c):=by
 unfold My.kJ;exact ((bI.set (h _ (by simp[lN]))).trans (bI.set (h _ (by simp[lN])))).trans (bI.set (h _ (by simp[lN])))
theorem h_.only (a:bI F S S')(h:h_ S x c)(hF:∀j∈lN c,j∉F):h_ S' x c:=⟨a.at h.i (hF _ (by simp[lN])),a.at h.o (hF _ (by simp[lN])),a.at h.s (hF _ (by simp[lN]))⟩
theorem e_.only (a:bI F S S')(h:e_ S m y)(hF:∀j∈fp y,j∉F):e_ S' m y where
 a:=a.at h.a (hF _ (by simp[fp]))
 k:=a.at h.k (hF _ (by simp[fp]))
 p:=a.at h.p (hF _ (by simp[fp]))
 l:=a.at h.l (hF _ (by simp[fp]))
 len:=h.len
 mJ:=λj x c h1 h2=>(h.mJ j x c h1 h2).only a λn hn=>hF n (by
  unfold fp;simp only[zap,zbx];exact .inr (.inr (.inr (.inr ⟨c,zaR h2,hn⟩))))
 nd:=h.nd
theorem A3 {α β:Type}{f:α -> List β}:∀{l:List α} {j k:Nat} {a b:α},(l.flatMap f).Nodup->l[j]? = some a->l[k]? = some b->j≠k->∀n∈f a,n∉f b
 |[],j,k,a,b,_,h,_,_,_,_=>by simp at h
 |x::r,j,k,a,b,nd,h1,h2,ne,n,hn=>by
  rw[zcZ] at nd;have nd':=zcl.mp nd;intro hb;cases j with
  |zero =>
   cases k with
   |zero=>exact ne rfl
   |succ k =>
    simp only[zaX,zbO] at h1;simp only[zaF] at h2;subst h1;exact nd'.2.2 n hn n (zbx.mpr ⟨b,zaR h2,hb⟩) rfl
  |succ j =>
   simp only[zaF] at h1;cases k with
   |zero =>
    simp only[zaX,zbO] at h2;subst h2;exact nd'.2.2 n hb n (zbx.mpr ⟨a,zaR h1,hn⟩) rfl
   |succ k =>
    simp only[zaF] at h2;exact A3 nd'.2.1 h1 h2 (λz=>ne (by rw[z])) n hn hb
theorem Y_ (h:(fp y).Nodup):(y.cs.flatMap lN).Nodup:=by
 unfold fp at h;simp only[zbD] at h;exact h.2.2.2.2
noncomputable def M.mh (m:M)(x:I):M:={m with pl:=m.pl.dropLast++[x]}
section
variable {S:Cs}{m:M}{y:Ly}{n:Nat}{fX:List I}{x x':I}{ci:List L3}{c:L3}
theorem e_.mh (h:e_ S m y)(e1:m.pl=fX++[x])(e2:y.cs=ci++[c])(e3:ci.length=fX.length):e_ (kJ S x' c) (m.mh x') y:=by
 obtain⟨d,a1,a2,a3,a4,b1,b2,b3,b4,c1,c2,c3,c4⟩:=DC h.nd (c:=c) (by rw[e2];simp)
 have hI:=h.rm e1 e2 e3;have on:bI (lN c) S (kJ S x' c):=bI.kJ λ_ h=>h
 have nm:∀j,j≠c.i->j≠c.o->j≠c.s->j∉lN c:=λj h1 h2 h3 q=>by simp[lN] at q;rcases q with q|q|q;exact h1 q;exact h2 q;exact h3 q
 have ep:(m.mh x').pl=fX++[x']:=by unfold M.mh;simp[e1]
 refine⟨on.at h.a (nm _ a1.symm b1.symm c1.symm),on.at h.k (nm _ a2.symm b2.symm c2.symm),on.at h.p (nm _ a3.symm b3.symm c3.symm),on.at h.l (nm _ a4.symm b4.symm c4.symm),?_,?_,h.nd⟩
 ·rw[ep,e2];simp[e3]
 ·intro j z cz h1 h2
  rw[ep] at h1;by_cases hj:j=fX.length
  ·subst hj
   rw[dF] at h1;rw[e2,<-e3,dF] at h2;cases h1;cases h2
   exact lM hI d
  ·have Hg:j<fX.length:=by
    have:=(zae.mp h1).1
    simp at this
    omega
   rw[zaj Hg] at h1;refine (h.mJ j z cz (by rw[e1,zaj Hg];exact h1) h2).only on (A3 (Y_ h.nd) h2 (k:=fX.length) (by rw[e2,<-e3,dF]) hj)
theorem aeU (e1:m.pl=fX++[x])(z:I):(m.mh z).pl=fX++[z]:=by unfold M.mh;simp[e1]
theorem Sz.mh (h:Sz m n)(e1:m.pl=fX++[x])(hs:x'.bW=x.bW)(h1:x'.outs.length<=n)(h2:x'.gU.length<=n):Sz (m.mh x') n:=by
 have ep:=aeU e1 x';have hm:∀z∈(m.mh x').pl,z∈m.pl\/z=x':=λz hz=>by
  rw[ep] at hz;rcases zbC.mp hz with q|q
  ·exact .inl (by rw[e1];exact zby _ q)
  ·exact .inr (by simpa using q)
 refine⟨?_,h.kn,h.fN,h.p0,h.p1,λz hz=>?_,λz hz=>?_,λz hz=>?_⟩
 ·rw[ep];have:=h.pl;rw[e1] at this;simpa using this
 ·rcases hm z hz with q|rfl
  ·exact h.outs z q
  ·exact h1
 ·rcases hm z hz with q|rfl
  ·exact h.gU z q
  ·exact h2
 ·rcases hm z hz with q|rfl
  ·exact h.bW z q
  ·rw[hs];exact h.bW x (by rw[e1];simp)
end
noncomputable def iS (m:M)(x:I)(b:B):Tr:=.tp [.int ((m.pl.length:Int) - 1),.int x.ov,.int x.ba,.str x.o6,.str x.wR,.str x.wD,b.t,.str (x.Ea b)]
noncomputable def mO (m:M)(x:I):gY->M
 |.mH b=>{m.mh (x.qg m.ru b) with fN:=m.fN++[iS m x b]}
 |.mJ n=>m.mh (x.Dv n)
 |.qh n=>m.mh (x.zl n)
 |.qj n=>m.mh (x.gO n)
 |.fV=>m.mh { x with en:= "declared" }
 |_=>m
noncomputable def F7 (m:M)(x:I):Str:=if (m.pl.length:Int)=2 * m.ru.i/\0<wF m x.bW then "won" else if x.QZ=true/\x.left (iG m x.bW)=false then "out" else if 0<m.ru.v/\m.ru.v<=x.ov then "overs" else ""
noncomputable def qo (m:M):M:=match gW m with|some x=>m.mh {x with en:=F7 m x} | none=>m
section
variable {S:Cs}{m:M}{y:Ly}{n:Nat}{fX:List I}{x x':I}{ci:List L3}{c:L3}
theorem P8 (h:e_ S m y)(z:Sz m n)(hn:n<=1000)(e1:m.pl=fX++[x])(e2:y.cs=ci++[c])(e3:ci.length=fX.length):Ii [.hd y.a,.hd c.i] S = .ok (.str (F7 m x)) S:=by
 have hs:m.pl.length<=1000:=zai z.pl hn
 have hI:=h.rm e1 e2 e3;have k1:=F3 h;have k2:=F4 h x.bW hs;have k3:=PV hI;have U8:=z.bW x (by rw[e1];simp)
 have k5:=@jv m x.bW U8
 have hpl:(iG m x.bW).length<=1000:=by
  have:=z.p0;have:=z.p1
  unfold iG;split<;>omega
 have k4:=aeS hI (iG m x.bW) hpl
 unfold oK at k4;have ha:=h.a;have hp:=h.p;have hi:=hI.i;have hz:(y.cs.length<=sizeLine)=True:=bO (by rw[h.len];omega)
 unfold mF cT at ha;unfold jz at hi;have c_:(y.cs.length:Int)=m.pl.length:=by rw[h.len]
 unfold Ii F7;generalize (m.pl.length:Int)=N at *
 generalize wF m x.bW=L at *
 generalize x.QZ=G at *
 generalize x.left (iG m x.bW)=F at *
 generalize hT1:mD (mB (ai (bY false) _ _)) _=T1
 generalize hT2:mD (mB (aR _ _ _ _ _ _)) _=T2
 generalize hT3:mB (m_ _ _ _ _ _)=T3
 have a1:T1 [some (.hd y.a),some (.hd c.i)] S = .ok (decide (N=2 * m.ru.i/\0<L)) S:=by
  subst hT1;by_cases h1:N=2 * m.ru.i<;>simp?[fx,ha,hp,hi,hz,k1,k2,c_,h1,zad,gGt,K9,true_and,false_and,decide_false]
 have a2:T2 [some (.hd y.a),some (.hd c.i)] S = .ok (decide (G=true/\F=false)) S:=by
  have eG:decide (G=true/\F=false)=(G && !F):=by cases G<;>cases F<;>rfl
  rw[eG];subst hT2;cases G<;>simp?[fx,ha,hi,k3,k4,k5,zci,zbT]
 have a3:T3 [some (.hd y.a),some (.hd c.i)] S = .ok (decide (0<m.ru.v/\m.ru.v<=x.ov)) S:=by
  subst hT3;unfold U.t at ha;by_cases h1:0<m.ru.v<;>simp?[fx,ha,hi,h1,V9,gLe,K9,true_and,false_and,decide_false]
 clear hT1 hT2 hT3 ha hi hp k1 k2 k3 k4 k5
 by_cases q1:N=2 * m.ru.i/\0<L
 ·rw[decide_eq_true q1] at a1
  rw[if_pos q1];simp?[a1]
 ·rw[decide_eq_false q1] at a1
  rw[if_neg q1];by_cases q2:G=true/\F=false
  ·rw[decide_eq_true q2] at a2
   rw[if_pos q2];simp?[a1,a2]
  ·rw[decide_eq_false q2] at a2
   rw[if_neg q2];by_cases q3:0<m.ru.v/\m.ru.v<=x.ov
   ·rw[decide_eq_true q3] at a3
    rw[if_pos q3];simp?[a1,a2,a3]
   ·rw[decide_eq_false q3] at a3
    rw[if_neg q3];simp?[a1,a2,a3]
theorem U9 (h:(fp y).Nodup):y.a≠y.k/\y.a≠y.p/\y.a≠y.l/\y.k≠y.p/\y.k≠y.l/\y.p≠y.l:=by
 unfold fp at h;simp only[zbD,zap,not_or] at h;exact⟨h.1.1,h.1.2.1,h.1.2.2.1,h.2.1.1,h.2.1.2.1,h.2.2.1.1⟩
theorem e_.Q0 (h:e_ S m y)(on:bI [n] S S')(hn:∀c∈y.cs,n∉lN c):∀(j:Nat) x c,m.pl[j]? = some x->y.cs[j]? = some c->h_ S' x c:=λj x c h1 h2=>(h.mJ j x c h1 h2).only on λk hk q=>by
 simp at q
 subst q;exact hn c (zaR h2) hk
theorem IC (h:(fp y).Nodup)(hk:k=y.a\/k=y.k\/k=y.p\/k=y.l):∀c∈y.cs,k∉lN c:=λc hc q=>by
 obtain⟨d,a1,a2,a3,a4,b1,b2,b3,b4,c1,c2,c3,c4⟩:=DC h (c:=c) hc
 simp[lN] at q
 rcases hk with rfl|rfl|rfl|rfl<;>rcases q with q|q|q<;>first|exact a1 q.symm|exact a2 q.symm|exact a3 q.symm|exact a4 q.symm|exact b1 q.symm|exact b2 q.symm|exact b3 q.symm|exact b4 q.symm|exact c1 q.symm|exact c2 q.symm|exact c3 q.symm|exact c4 q.symm
theorem e_.anP (h:e_ S m y)(l:List Tr):e_ (S.set y.l (.aM l)) {m with fN:=l} y:=by
 obtain⟨a1,a2,a3,a4,a5,a6⟩:=U9 h.nd;exact⟨by rw[dB a3.symm];exact h.a,by rw[dB a5.symm];exact h.k,by rw[dB a6.symm];exact h.p,cR (bq h.l),h.len,h.Q0 (bI.set (by simp)) (IC h.nd (.inr (.inr (.inr rfl)))),h.nd⟩
theorem U_ (h:e_ S m y)(z:Sz m n)(hn:n<=1000)(e1:m.pl=fX++[x])(e2:y.cs=ci++[c])(e3:ci.length=fX.length)(hx:x.en="")(b:B):
  Ib [.hd y.a,b.t] S = .ok .bz ((kJ S (x.qg m.ru b) c).set y.l (.aM (m.fN++[iS m x b]))):=by
 unfold Ib iS;have hs:m.pl.length<=1000:=zai z.pl hn
 have hI:=h.rm e1 e2 e3;have Va:x∈m.pl:=by rw[e1];simp
 obtain⟨d,a1,a2,a3,a4,b1,b2,b3,b4,c1,c2,c3,c4⟩:=DC h.nd (c:=c) (by rw[e2];simp)
 have k1:=fW h hs;rw[sY e1 e2,if_pos hx] at k1;have k2:=aeR hI d m.ru b (zai (z.outs x Va) hn)
 have hM:=e_.mh (x':=x.qg m.ru b) h e1 e2 e3
 have ha:=h.a;have hp:=h.p;have hi:=hI.i;have R7:=hM.a;have hl':=hM.l;have Jg:(m.mh (x.qg m.ru b)).fN=m.fN:=rfl
 rw[Jg] at hl';have hz:(y.cs.length<=sizeLine)=True:=bO (by rw[h.len];omega)
 have hz2:(m.fN.length<sizeLine)=True:=iP (by have:=z.fN;omega)
 have c_:(y.cs.length:Int)=m.pl.length:=by rw[h.len]
 unfold mF at ha R7;unfold jz at hi;generalize (m.pl.length:Int)=N at *
 generalize x.Ea b=o at *
 generalize kJ S (x.qg m.ru b) c=S1 at *
 unfold B.t at *
 simp?[fx,k1,ha,hp,hi,hz,c_,zad,dJ,k2,R7,hl',hz2]
end
noncomputable def A4 (s:Int)(f o b:Str):I:=⟨s,f,o,b,"",0,0,0,0,"",[],[(b,1)]⟩
noncomputable def jF (k:Nat):L3:=⟨k,k+1,k+2⟩
noncomputable def F8 (S:Cs)(s:Int)(f o b:Str):Cs:=S++[Ce.fH "Innings" (jz (A4 s f o b) (jF S.length)),Ce.gS [],Ce.gS [(Sum.inr b,Tr.int 1)]]
noncomputable def Kf (S:Cs)(y:Ly)(s:Int)(f o b:Str):Cs:=(F8 S s f o b).set y.p (.aM (y.cs.map (λc=>Tr.hd c.i)++[Tr.hd S.length]))
theorem P9:(S++(a::r))[S.length]? = some a:=by simp
theorem sa0:(S++(a::r)).set S.length b=S++(b::r):=by
 rw[zcf _ _ (zaf _),zeR];rfl
theorem ga2:(S++(a::b::c::r))[S.length+2]? = some c:=by
 rw[zau (by omega),show S.length+2 - S.length=2 by omega];rfl
theorem sa2:(S++(a::b::c::r)).set (S.length+2) d=S++(a::b::d::r):=by
 rw[zcf _ _ (by omega),show S.length+2 - S.length=2 by omega];rfl
theorem ajV (S:Cs)(s:Int)(f o b:Str):UI [.hd S.length,.int s,.str f,.str o,.str b] (S++[.fH "Innings" []]) = .ok .bz (F8 S s f o b):=by
 unfold UI F8 jz A4 jF;simp?[fx,P9,sa0,ga2,sa2,eW,d8,zbB,zbf,List.foldl_nil,zeQ]
section
variable {S:Cs}{m:M}{y:Ly}{n:Nat}{fX:List I}{x x':I}{ci:List L3}{c:L3}
theorem e_.lt (h:e_ S m y):∀j∈fp y,j<S.length:=by
 intro j hj;unfold fp at hj;simp only[zap,zbx] at hj;rcases hj with rfl|rfl|rfl|rfl|⟨c,hc,hj⟩
 ·exact bq h.a
 ·exact bq h.k
 ·exact bq h.p
 ·exact bq h.l
 ·obtain⟨k,hk⟩:=List.getElem?_of_mem hc
  have hk2:k<m.pl.length:=by rw[<-h.len];exact (zae.mp hk).1
  have hI:=h.mJ k m.pl[k] c (zag hk2) hk
  simp[lN] at hj
  rcases hj with rfl|rfl|rfl
  ·exact bq hI.i
  ·exact bq hI.o
  ·exact bq hI.s
theorem e_.ajW (h:e_ S m y)(s:Int)(f o b:Str):e_ (Kf S y s f o b) {m with pl:=m.pl++[A4 s f o b]} {y with cs:=y.cs++[jF S.length]}:=by
 have on:bI [y.p] S (Kf S y s f o b):=bI.trans bI.rJ (bI.set (by simp))
 obtain⟨a1,a2,a3,a4,a5,a6⟩:=U9 h.nd;have nL:=h.lt;have hp:=nL y.p (by simp[fp])
 have ne:∀k,S.length<=k->y.p≠k:=λk hk z=>by omega
 refine⟨on.at h.a (by simp[a2]),on.at h.k (by simp[a4]),?_,on.at h.l (by simp[a6.symm]),by simp[h.len],?_,?_⟩
 ·unfold Kf F8
  rw[cR (by simp;omega)]
  simp[jF]
 ·intro j z cz h1 h2
  by_cases hj:j=m.pl.length
  ·subst hj
   have q1:(m.pl++[A4 s f o b])[m.pl.length]? = some (A4 s f o b):=dF _ _
   have q2:(y.cs++[jF S.length])[m.pl.length]? = some (jF S.length):=by rw[<-h.len];exact dF _ _
   simp only at h1 h2
   rw[q1] at h1;rw[q2] at h2;cases h1;cases h2
   unfold Kf F8;refine⟨?_,?_,?_⟩
   ·rw[dB (k:=(jF S.length).i) (ne _ (zaf _))]
    show (S++_)[S.length]? = _
    exact P9
   ·rw[dB (k:=(jF S.length).o) (ne _ (by simp[jF]))]
    show (S++_)[S.length+1]? = _
    rw[zau (by omega),show S.length+1 - S.length=1 by omega]
    rfl
   ·rw[dB (k:=(jF S.length).s) (ne _ (by simp[jF]))]
    show (S++_)[S.length+2]? = _
    rw[zau (by omega),show S.length+2 - S.length=2 by omega]
    rfl
  ·have Hg:j<m.pl.length:=by
    have:=(zae.mp h1).1
    simp at this
    omega
   simp only at h1 h2
   rw[zaj Hg] at h1;rw[zaj (by rw[h.len];exact Hg)] at h2
   exact h.Q0 on (IC h.nd (.inr (.inr (.inl rfl)))) j z cz h1 h2
 ·show (fp {y with cs:=y.cs++[jF S.length]}).Nodup
  have e:fp {y with cs:=y.cs++[jF S.length]}=fp y++[S.length,S.length+1,S.length+2]:=by
   unfold fp;simp[lN,jF]
  rw[e,zcl];refine⟨h.nd,by simp,λa ha b hb=>?_⟩
  have:=nL a ha
  simp at hb
  omega
theorem Vb (h:e_ S m y)(z:Sz m n)(hn:n<=1000)(t f o b:Str)(s:Int)(hs:A2 m t=some s):HZ [.hd y.a,(gY.c9 t f o b).t] S = .ok .bz (Kf S y s f o b):=by
 unfold HZ gY.t;have e1:=Y8 h z hn t;rw[hs] at e1;have e2:=ajV S s f o b;have ha:=h.a;have hp:=h.p;have on:bI [] S (F8 S s f o b):=bI.rJ
 have hp':=on.at h.p (by simp)
 have hz2:(y.cs.length<sizeLine)=True:=iP (by have:=z.pl;rw[h.len];omega)
 unfold mF at ha;unfold Kf;generalize F8 S s f o b=S1 at *
 simp?[fx,e1,mL,ha,hp,e2,hp',zad,hz2]
theorem anR (h:e_ S m y)(z:Sz m n)(hn:n<=1000)(e1:m.pl=fX++[x])(e2:y.cs=ci++[c])(e3:ci.length=fX.length)(hx:x.en="")(e:gY)(he:e.zm=true):
  ∃S',wB [.hd y.a,e.t] S = .ok .bz S'/\e_ S' (mO m x e) y/\bI (fp y) S S':=by
 have hs:m.pl.length<=1000:=zai z.pl hn
 have hI:=h.rm e1 e2 e3;have Va:x∈m.pl:=by rw[e1];simp
 obtain⟨d,_⟩:=DC h.nd (c:=c) (by rw[e2];simp)
 have k1:=fW h hs;rw[sY e1 e2,if_pos hx] at k1;have ha:=h.a;have hi:=hI.i;have V0:=bq hI.i;have onc:∀x',bI (fp y) S (kJ S x' c):=λx'=>bI.kJ λj hj=>by
  unfold fp;simp only[zap,zbx];exact .inr (.inr (.inr (.inr ⟨c,by rw[e2];simp,hj⟩)))
 unfold mF at ha;unfold jz at hi;unfold wB;cases e with
 |mH b =>
  have k2:=U_ h z hn e1 e2 e3 hx b;refine⟨_,?_,(e_.mh (x':=x.qg m.ru b) h e1 e2 e3).anP (m.fN++[iS m x b]),(onc _).trans (bI.set (by simp[fp]))⟩
  generalize iS m x b=r at *
  unfold gY.t;unfold B.t at *
  simp?[fx,k1,ha,k2]
 |mJ nm =>
  have k2:=aeM hI d nm;refine⟨_,?_,e_.mh (x':=x.Dv nm) h e1 e2 e3,onc _⟩
  unfold gY.t;simp?[fx,k1,ha,hi,k2]
 |qh nm =>
  have k2:=U3 hI d nm (zai (z.gU x Va) hn)
  refine⟨_,?_,e_.mh (x':=x.zl nm) h e1 e2 e3,onc _⟩
  unfold gY.t;simp?[fx,k1,ha,hi,k2]
 |qj nm =>
  have k2:=Iw hI d nm;refine⟨_,?_,e_.mh (x':=x.gO nm) h e1 e2 e3,onc _⟩
  unfold gY.t;simp?[fx,k1,ha,hi,k2]
 |fV =>
  have k2:=lY (y:={ x with en:= "declared" }) hI d rfl rfl
  refine⟨_,?_,e_.mh (x':={ x with en:= "declared" }) h e1 e2 e3,onc _⟩
  unfold gY.t;unfold jz at k2;simp?[fx,k1,ha,hi,k2]
 |c9 _ _ _ _=>cases he
 |swap _ _=>cases he
 |ia=>cases he
 |lZ=>cases he
noncomputable def A5:Str:= "the rules don't let this entry: "
theorem wG:A5.length=32:=by decide +kernel
theorem Kg (w:Str)(hw:w.length<=100)(e:Tr)(hm:S[y.a]? = some (.fH "Match" (mF m y)))(hr:r9 [.hd y.a,e] S = .ok (.str w) S0):
  r_ [.hd y.a,e] S = .ex S0.length (S0++[.xm "NotLet" [("rule",.str w),("number",.int 0)]]):=by
 unfold r_;unfold mF at hm;have h1:(w.length<=sizeLine)=True:=bO (by omega)
 have h2:((Str.empty++A5).length<=sizeLine)=True:=bO (by
  rw[Str.length_append,wG];decide)
 have h3:((Str.empty++A5++w).length<=sizeLine)=True:=bO (by
  rw[Str.length_append,Str.length_append,wG];have:Str.empty.length=0:=rfl
  omega)
 unfold A5 at h2 h3;simp?[fx,hm,hr,fJ,abn,h1,h2,h3]
theorem F9 (h:e_ S m y)(z:Sz m n)(e:Tr)(hr:r9 [.hd y.a,e] S = .ok .bz S0)(h0:e_ S0 m y)(hy:y1.a=y.a)(hd:wB [.hd y.a,e] S0 = .ok .bz S1)(h1:e_ S1 m1 y1)(z1:Sz m1 k)(hn:k<=1000):
  ∃S',r_ [.hd y.a,e] S = .ok .bz S'/\e_ S' (qo m1) y1/\bI (fp y1) S1 S':=by
 have ha:=h.a;have ha0:=h0.a;have ha1:=h1.a;have k1:=fW h1 (zai z1.pl hn)
 rw[hy] at ha1 k1;unfold mF at ha ha0 ha1;unfold r_;cases hg:(gW m1).isSome
 ·have eg:=gb h1.len hg
  have ef:qo m1=m1:=by
   unfold qo;cases hq:gW m1 with
   |none=>rfl
   |some x=>rw[hq] at hg;cases hg
  refine⟨S1,?_,by rw[ef];exact h1,bI.refl⟩
  simp?[fx,ha,ha0,hr,hd,ha1,k1,eg]
 ·obtain⟨fX,x,ci,c,b1,b2,b3,b4,b5,b6⟩:=fO h1.len hg
  have hI:=h1.rm b1 b2 b3;obtain⟨d,_⟩:=DC h1.nd (c:=c) (by rw[b2];simp)
  have k2:=P8 h1 z1 hn b1 b2 b3;rw[hy] at k2;have k3:=lY (y:={x with en:=F7 m1 x}) hI d rfl rfl
  have hi:=hI.i;have ef:qo m1=m1.mh {x with en:=F7 m1 x}:=by unfold qo;rw[b6]
  refine⟨kJ S1 {x with en:=F7 m1 x} c,?_,by rw[ef];exact e_.mh h1 b1 b2 b3,bI.kJ λj hj=>?_⟩
  ·unfold jz at hi k3
   generalize F7 m1 x=en at *
   simp?[fx,ha,ha0,hr,hd,ha1,k1,b5,k2,hi,k3]
  ·unfold fp
   simp only[zap,zbx];exact .inr (.inr (.inr (.inr ⟨c,by rw[b2];simp,hj⟩)))
theorem P_ (x:I)(a b:Str):(x.xJ a b).outs.length<=x.outs.length+1/\(x.xJ a b).gU=x.gU/\(x.xJ a b).bW=x.bW:=by
 unfold I.xJ;have hl:∀(z:I) (k:Str),(z.gO k).outs=z.outs/\(z.gO k).gU=z.gU/\(z.gO k).bW=z.bW:=λz k=>by unfold I.gO;split<;>exact⟨rfl,rfl,rfl⟩
 dsimp only;generalize hy:I.gO {x with outs:=gQ x.outs a,wk:=x.wk+1} a=y
 have h1:y.outs=gQ x.outs a/\y.gU=x.gU/\y.bW=x.bW:=by rw[<-hy,(hl _ _).1,(hl _ _).2.1,(hl _ _).2.2];exact⟨rfl,rfl,rfl⟩
 have h2:y.outs.length<=x.outs.length+1:=by
  rw[h1.1];unfold gQ
  split<;>simp
 split<;>split<;>exact⟨h2,h1.2⟩
theorem Qa (u:U)(x:I)(b:B):(x.qg u b).outs.length<=x.outs.length+1/\(x.qg u b).gU=x.gU/\(x.qg u b).bW=x.bW:=by
 unfold I.qg;have hf:∀(x:I) (o:Int),(x.xK o).outs=x.outs/\(x.xK o).gU=x.gU/\(x.xK o).bW=x.bW:=λx o=>by unfold I.xK;split<;>exact⟨rfl,rfl,rfl⟩
 dsimp only;generalize hz:(if o7 b.r b.rp=true then I.swap {x with fG:=x.fG+b.UZ u} else {x with fG:=x.fG+b.UZ u})=z
 have z1:z.outs=x.outs/\z.gU=x.gU/\z.bW=x.bW:=by rw[<-hz];split<;>exact⟨rfl,rfl,rfl⟩
 generalize hw:(if x.Ea b="" then z else z.xJ (x.Ea b) (if b.w="run" then b.en else "strike"))=w
 have w1:w.outs.length<=x.outs.length+1/\w.gU=x.gU/\w.bW=x.bW:=by
  rw[<-hw,<-z1.1,<-z1.2.1,<-z1.2.2];split
  ·exact⟨zbE _,rfl,rfl⟩
  ·exact P_ _ _ _
 split
 ·rw[(hf w u.o).1,(hf w u.o).2.1,(hf w u.o).2.2];exact w1
 ·exact w1
theorem zo (l:List (Str×Int))(k:Str)(v:Int):(nB l k v).length<=l.length+1:=by unfold nB;split<;>simp
theorem Sz.mono (h:Sz m n)(hn:n<=n'):Sz m n':=⟨zai h.pl hn,zai h.kn hn,zai h.fN hn,h.p0,h.p1,λx hx=>zai (h.outs x hx) hn,λx hx=>zai (h.gU x hx) hn,h.bW⟩
theorem Sz.mO (z:Sz m n)(e1:m.pl=fX++[x])(e:gY):Sz (mO m x e) (n+1):=by
 have Va:x∈m.pl:=by rw[e1];simp
 have z':=z.mono (zbE n)
 have ho:=z.outs x Va;have hs:=z.gU x Va;cases e with
 |mH b =>
  have q:=Qa m.ru x b;have k:=z'.mh (x':=x.qg m.ru b) e1 q.2.2 (by omega) (by rw[q.2.1];omega)
  refine⟨k.pl,k.kn,?_,k.p0,k.p1,k.outs,k.gU,k.bW⟩
  show (m.fN++[iS m x b]).length<=n+1
  have:=z.fN
  simp
  exact this
 |mJ nm=>exact z'.mh (x':=x.Dv nm) e1 (by unfold I.Dv;split<;>rfl) (by unfold I.Dv;split<;>(show x.outs.length<=_;omega)) (by unfold I.Dv;split<;>(show x.gU.length<=_;omega))
 |qh nm=>exact z'.mh (x':=x.zl nm) e1 rfl (by show x.outs.length<=_;omega) (by have:=zo x.gU nm (jt x.gU nm+1);show (nB _ _ _).length<=_;omega)
 |qj nm=>exact z'.mh (x':=x.gO nm) e1 (by unfold I.gO;split<;>rfl) (by unfold I.gO;split<;>(show x.outs.length<=_;omega)) (by unfold I.gO;split<;>(show x.gU.length<=_;omega))
 |fV=>exact z'.mh (x':={ x with en:= "declared" }) e1 rfl (by show x.outs.length<=_;omega) (by show x.gU.length<=_;omega)
 |c9 _ _ _ _=>exact z'
 |swap _ _=>exact z'
 |ia=>exact z'
 |lZ=>exact z'
theorem Sz.fS (z:Sz m n):Sz (qo m) n:=by
 unfold qo;cases hg:gW m with
 |none=>exact z
 |some x =>
  rcases zcc m.pl with h|⟨fX,w,h⟩
  ·unfold gW at hg;rw[h] at hg;cases hg
  ·have h:m.pl=fX++[w]:=by simpa using h
   rw[qm h] at hg;split at hg
   ·cases hg
    exact z.mh h rfl (z.outs x (by rw[h];simp)) (z.gU x (by rw[h];simp))
   ·cases hg
end
noncomputable def iZ (u:U)(t0 t1:Str)(p0 p1:List Str):M:=⟨u,t0,t1,p0,p1,p0++p1,[],false,false,[]⟩
noncomputable def wH (k:Nat):Ly:=⟨k,k+1,k+2,k+3,[]⟩
noncomputable def zq (S:Cs)(m:M):Cs:=S++[Ce.fH "Match" (mF m (wH S.length)),Ce.aM (m.kn.map .str),Ce.aM [],Ce.aM []]
theorem ga1:(S++(a::b::r))[S.length+1]? = some b:=by
 rw[zau (by omega),show S.length+1 - S.length=1 by omega];rfl
theorem ga3:(S++(a::b::c::d::r))[S.length+3]? = some d:=by
 rw[zau (by omega),show S.length+3 - S.length=3 by omega];rfl
theorem Qc (t0 t1:Str)(p0 p1:List Str)(h0:p0.length<=11)(h1:p1.length<=11)(S:Cs):Df [cT t0 t1 p0 p1,.str "player"] S = .ok (.hd S.length) (S++[.aM ((p0++p1).map .str)]):=by
 unfold Df cT;have hl:(p0.length<=sizeLine)=True:=bO (by omega)
 have Jg:(p0.length+p1.length<=sizeLine)=True:=bO (by omega)
 simp?[fx,JJ,zad,zaD,hl,Jg,zcP,zak]
theorem aeV (u:U)(t0 t1:Str)(p0 p1:List Str)(h0:p0.length<=11)(h1:p1.length<=11)(S:Cs):HH [.hd S.length,u.t,cT t0 t1 p0 p1] (S++[.fH "Match" []]) = .ok .bz (zq S (iZ u t0 t1 p0 p1)):=by
 unfold HH zq iZ mF wH;have ht:=λS=>Qc t0 t1 p0 p1 h0 h1 S
 have hl0:(p0.length<=sizeLine)=True:=bO (by omega)
 have V5:(p1.length<=sizeLine)=True:=bO (by omega)
 have hz:(∀n:Nat,(n<5)=True->(n<sizeLine)=True):=λn h=>iP (by have:=of_eq_true h;omega)
 unfold cT at ht ⊢
 generalize u.t=ut at *
 simp?[fx,ht,hz,zad,hl0,V5,P9,sa0,zbB]
theorem Vc (S:Cs)(u:U)(t0 t1:Str)(p0 p1:List Str):e_ (zq S (iZ u t0 t1 p0 p1)) (iZ u t0 t1 p0 p1) (wH S.length):=by
 unfold zq;refine⟨P9,ga1,ga2,ga3,rfl,λj x c h=>?_,?_⟩
 ·simp[iZ] at h
 ·simp[fp,wH]
theorem Vd (u:U)(t0 t1:Str)(p0 p1:List Str)(h0:p0.length<=11)(h1:p1.length<=11):Sz (iZ u t0 t1 p0 p1) 22:=⟨by simp[iZ],by simp[iZ];omega,by simp[iZ],h0,h1,λx h=>by simp[iZ] at h,λx h=>by simp[iZ] at h,λx h=>by simp[iZ] at h⟩
noncomputable def rq (m:M):Tr:=match gW m with
 |some x=>.tp [.str (mK m x.bW),.str x.o6,.str x.wR,.str x.wD,.int x.fG,.int x.wk,.int x.ov,.int x.ba]
 |none=>.bz
section
variable {S:Cs}{m:M}{y:Ly}{n:Nat}
theorem Ve (h:e_ S m y)(z:Sz m n)(hn:n<=1000):Ij [.hd y.a] S = .ok (rq m) S:=by
 unfold Ij rq;have k1:=fW h (zai z.pl hn)
 have ha:=h.a;unfold mF cT at ha;cases hg:(gW m).isSome
 ·have eg:=gb h.len hg
  have en:gW m=none:=by
   cases hq:gW m with
   |none=>rfl
   |some x=>rw[hq] at hg;cases hg
  rw[en];refine pV (S1:=S) (t:=.bz) ?_ (zbt ..) (by unfold B7;simp only[Tw];rfl)
  simp?[fx,ha,k1,eg]
 ·obtain⟨fX,x,ci,c,b1,b2,b3,b4,b5,b6⟩:=fO h.len hg
  have hi:=(h.rm b1 b2 b3).i
  unfold jz at hi;have k5:=@jv m x.bW (z.bW x (by rw[b1];simp))
  rw[b6];refine pV (S1:=S) (t:=.tp [.str (mK m x.bW),.str x.o6,.str x.wR,.str x.wD,.int x.fG,.int x.wk,.int x.ov,.int x.ba]) ?_ (zbt ..) ?_
  ·simp?[fx,ha,hi,k1,b5,k5]
  ·unfold B7
   simp only[pW,Ni,G9,Av,zaA,zaL,zaE];rfl
end
noncomputable def nZ (a b n:Str):Str:=if n=a then b else n
noncomputable def A6 (a b:Str)(l:List Str):List Str:=l.foldl (λq n=>gQ q (nZ a b n)) []
noncomputable def F_ (a b:Str)(l:List (Str×Int)):List (Str×Int):=l.foldl (λq p=>nB q (nZ a b p.1) (jt l p.1)) []
theorem Ga (l:List Str)(n:Str):(gQ l n).length<=l.length+1:=by unfold gQ;split<;>simp
theorem Qd:(A6 a b l).length<=l.length:=by
 have:∀(l q:List Str),(l.foldl (λq n=>gQ q (nZ a b n)) q).length<=q.length+l.length:=by
  intro l;induction l with
  |nil=>intro q;simp
  |cons n r ih=>intro q;rw[zbf];have:=ih (gQ q (nZ a b n));have:=Ga q (nZ a b n);rw[zar];omega
 simpa[A6] using this l []
theorem Qe:(F_ a b l).length<=l.length:=by
 have:∀(g:Str->Int) (l q:List (Str×Int)),(l.foldl (λq p=>nB q (nZ a b p.1) (g p.1)) q).length<=q.length+l.length:=by
  intro g l;induction l with
  |nil=>intro q;simp
  |cons n r ih=>intro q;rw[zbf];have:=ih (nB q (nZ a b n.1) (g n.1));have:=zo q (nZ a b n.1) (g n.1);rw[zar];omega
 simpa[F_] using this (jt l) l []
theorem anU (l:List Str):eW [] (l.map λn=>(Sum.inr (nZ a b n),Tr.bl true))=iF (A6 a b l):=by
 unfold eW A6;rw[List.foldl_map];have:∀(l q:List Str),l.foldl (λx y=>d8 x (Sum.inr (nZ a b y):dh) (Tr.bl true)) (iF q)=iF (l.foldl (λq n=>gQ q (nZ a b n)) q):=by
  intro l;induction l with
  |nil=>intro q;rfl
  |cons n r ih=>intro q;rw[zbf,Dy,ih,zbf]
 exact this l []
theorem anV (l:List (Str×Int)):eW [] (l.map λp=>(Sum.inr (nZ a b p.1),Tr.int (jt l p.1)))=sW (F_ a b l):=by
 unfold eW F_;rw[List.foldl_map];have:∀(g:Str->Int) (l q:List (Str×Int)),l.foldl (λx y=>d8 x (Sum.inr (nZ a b y.1):dh) (Tr.int (g y.1))) (sW q)=sW (l.foldl (λq p=>nB q (nZ a b p.1) (g p.1)) q):=by
  intro g l;induction l with
  |nil=>intro q;rfl
  |cons n r ih=>intro q;rw[zbf,IA,ih,zbf]
 exact this (jt l) l []
theorem zu {α:Type}(k:α -> Str)(v:α -> Tr):∀l:List α,qX (l.map λp=>.tp [.str (k p),v p])=some (l.map λp=>(Sum.inr (k p),v p))
 |[]=>rfl
 |p::r=>by
  rw[rW];unfold qX;rw[zu k v r];rfl
theorem Za {α:Type}{S:Cs}{k:Nat}{D:List (dh×Tr)}(hk:S[k]? = some (.gS D))(a b:Str)(L:List α)(nm:α -> Str)(vl:α -> Tr)(hD:D.map (λp=>NS p.1)=L.map λp=>.str (nm p))(hv:∀p∈L,aH (.inr (nm p)) D=some (vl p))(hl:L.length<=1000):
  Dn [.hd k,.str a,.str b] S = .ok (.hd S.length) (S.set k (.xo D)++[.gS (eW [] (L.map λp=>(Sum.inr (nZ a b (nm p)),vl p)))]):=by
 unfold Dn;have hf:(S.set k (.xo D))[k]? = some (.xo D):=cR (bq hk)
 generalize hS:S.set k (.xo D)=S1 at *
 simp only[B8,gK,aD,bL,af,gx,qS,aa,aj,iD,hk,hD,hS,R.d7,R.gG,iO,rW,zaJ,zbX,Hv,zar,zba,Nat.reduceAdd,Nat.reduceSub,zcr,zaz,zaX,zaF,Option.join,zcn,id_eq,zaw];rw[eX trivial (λτ=>∃v,τ=[some (.str b),some (.hd k),some (.str a),v]) (λp=>.str (nm p)) (λp=>.tp [.str (nZ a b (nm p)),vl p]) (λ_=>true) L _ [] ⟨_,rfl⟩ ?_ (by simp;omega)]
 ·rw[Hv,zbS.mpr (λ_ _=>rfl)]
  have Jg:(L.map λp=>((Sum.inr (nZ a b (nm p)):dh),vl p)).length<=1000:=by simpa using hl
  have hL1:S1.length=S.length:=by rw[<-hS];simp
  simp only[R.d7,AK,E6,zu (λp=>nZ a b (nm p)) vl,R.gG,uA,if_pos Jg,hL1]
 ·rintro p hp τ ⟨v,rfl⟩
  refine⟨[some (.str b),some (.hd k),some (.str a),some (.str (nm p))],⟨_,rfl⟩,rfl,rfl,λ_=>?_⟩
  have h1:=hv p hp;unfold nZ;by_cases h:nm p=a
  ·rw[if_pos h]
   rw[h] at h1;simp?[h,uK,sM,hf,zbL,h1]
  ·rw[if_neg h]
   simp?[h,uK,sM,hf,zbL,h1]
theorem Kh (h:k∈l):aH (.inr k) (iF l)=some (.bl true):=by
 have h1:=kK (k:=k) (l:=l)
 rw[decide_eq_true h] at h1;obtain⟨t,e⟩:=zcm.mp h1;rw[e];have:∀l:List Str,aH (.inr k) (iF l)=some t->t = .bl true:=by
  intro l;induction l with
  |nil=>intro q;cases q
  |cons a r ih =>
   intro q;unfold iF at q;rw[rW] at q;unfold aH at q;split at q
   ·cases q;rfl
   ·exact ih q
 rw[this l e]
theorem Qf:∀p∈l,aH (.inr p.1) (sW l)=some (.int (jt l p.1)):=by
 induction l with
 |nil=>intro p h;cases h
 |cons a r ih =>
  intro p h;unfold sW;rw[rW];obtain⟨k,v⟩:=a;unfold aH jt;by_cases e:k=p.1
  ·rw[if_pos (by rw[e]),if_pos e]
  ·rw[if_neg (λz=>e (zdt z)),if_neg e]
   rcases zap.mp h with rfl|h
   ·exact absurd rfl e
   ·exact ih p h
noncomputable def I.nZ (x:I)(a b:Str):I:={x with Y4:=My.nZ a b x.Y4,outs:=A6 a b x.outs,gU:=F_ a b x.gU}
section
variable {S:Cs}{x:I}{c:L3}
theorem Qg (h:h_ S x c)(d:Dj c)(a b:Str)(ho:x.outs.length<=1000)(hs:x.gU.length<=1000):
  ∃S',Ie [.hd c.i,.str a,.str b] S = .ok .bz S'/\h_ S' (x.nZ a b) ⟨c.i,S.length,S.length+1⟩/\bI (lN c) S S':=by
 have k1:=Za h.o a b x.outs id (λ_=>.bl true) (by unfold iF;rw[zaK];rfl) (λp hp=>Kh hp) ho
 simp only[id] at k1;rw[anU] at k1;have hi:=h.i;have lo:=bq h.o;have li:=bq h.i;have ls:=bq h.s;generalize Zb:S.set c.o (.xo (iF x.outs))++[.gS (iF (A6 a b x.outs))]=S1 at *
 have on1:bI (lN c) S S1:=by rw[<-Zb];exact (bI.set (by simp[lN])).trans bI.rJ
 have l1:S1.length=S.length+1:=by rw[<-Zb];simp
 have i1:S1[c.i]? = some (.fH "Innings" (jz x c)):=by
  rw[<-Zb,zaj (by simpa using li),dB d.io.symm];exact hi
 have s1:S1[c.s]? = some (.gS (sW x.gU)):=by
  rw[<-Zb,zaj (by simpa using ls),dB d.os];exact h.s
 have o1:S1[S.length]? = some (.gS (iF (A6 a b x.outs))):=by
  rw[<-Zb,zau (by simp)];simp
 generalize BN:S1.set c.i (.fH "Innings" (jz x ⟨c.i,S.length,c.s⟩))=S2 at *
 have on2:bI (lN c) S S2:=by rw[<-BN];exact on1.trans (bI.set (by simp[lN]))
 have l2:S2.length=S.length+1:=by rw[<-BN];simpa using l1
 have i2:S2[c.i]? = some (.fH "Innings" (jz x ⟨c.i,S.length,c.s⟩)):=by rw[<-BN];exact cR (by omega)
 have s2:S2[c.s]? = some (.gS (sW x.gU)):=by rw[<-BN,dB d.is];exact s1
 have o2:S2[S.length]? = some (.gS (iF (A6 a b x.outs))):=by rw[<-BN,dB (by omega)];exact o1
 have k2:=Za s2 a b x.gU (·.1) (λp=>.int (jt x.gU p.1)) (by unfold sW;rw[zaK];rfl) Qf hs
 rw[anV,l2] at k2;generalize hS3:S2.set c.s (.xo (sW x.gU))++[.gS (sW (F_ a b x.gU))]=S3 at *
 have on3:bI (lN c) S S3:=by rw[<-hS3];exact on2.trans ((bI.set (by simp[lN])).trans bI.rJ)
 have l3:S3.length=S.length+2:=by rw[<-hS3];simp[l2]
 have i3:S3[c.i]? = some (.fH "Innings" (jz x ⟨c.i,S.length,c.s⟩)):=by
  rw[<-hS3,zaj (by simp;omega),dB d.is.symm];exact i2
 have o3:S3[S.length]? = some (.gS (iF (A6 a b x.outs))):=by
  rw[<-hS3,zaj (by simp;omega),dB (by omega)];exact o2
 have s3:S3[S.length+1]? = some (.gS (sW (F_ a b x.gU))):=by
  rw[<-hS3,zau (by simp;omega)];simp[l2]
 have li3:c.i<S3.length:=by omega
 refine⟨S3.set c.i (.fH "Innings" (jz (x.nZ a b) ⟨c.i,S.length,S.length+1⟩)),?_,⟨cR li3,by rw[dB (by show ¬ c.i=S.length;omega)];exact o3,by rw[dB (by show ¬ c.i=S.length+1;omega)];exact s3⟩,on3.trans (bI.set (by simp[lN]))⟩
 unfold Ie I.nZ nZ;unfold jz at hi i1 BN i2 i3 ⊢
 by_cases hh:x.Y4=a
 ·subst hh
  simp?[fx,hi,k1,i1,BN,i2,k2,i3,cR li3,fE]
 ·simp?[fx,hi,k1,i1,BN,i2,k2,i3,hh,cR li3,fE]
end
theorem Zc (ps:List Str)(a b:Str)(S:Cs)(hl:ps.length<=1000):Ic [.ls (ps.map .str),.str a,.str b] S = .ok (.ls ((ps.map (nZ a b)).map .str)) S:=by
 unfold Ic;simp only[B8,gK,aD,gx,qS,aa,iL,xA,R.d7,R.gG,iO,rW,zaJ,zbX,Hv,zar,zba,Nat.reduceAdd,Nat.reduceSub,zcr,zaz,zaX,zaF,Option.join,zcn,id_eq,zaw];rw[eX trivial (λτ=>∃v,τ=[some (.str b),some (.str a),v]) (λn=>.str n) (λn=>.str (nZ a b n)) (λ_=>true) ps _ [] ⟨_,rfl⟩ ?_ (by simp;omega)]
 ·rw[Hv,zbS.mpr (λ_ _=>rfl),zaK]
  simp only[R.d7,R.gG,uA];rfl
 ·rintro n hn τ ⟨v,rfl⟩
  refine⟨[some (.str b),some (.str a),some (.str n)],⟨_,rfl⟩,rfl,rfl,λ_=>?_⟩
  unfold nZ;by_cases h:n=a<;>simp?[h]
section
variable {S:Cs}{m:M}{y:Ly}{n:Nat}{fX:List I}{x x':I}{ci:List L3}{c:L3}
theorem e_.rcd (h:e_ S m y)(m1:M)(hp:m1.pl=m.pl)(hl:m1.fN=m.fN):e_ ((S.set y.k (.aM (m1.kn.map .str))).set y.a (.fH "Match" (mF m1 y))) m1 y:=by
 obtain⟨a1,a2,a3,a4,a5,a6⟩:=U9 h.nd;have l1:=bq h.a;have l2:=bq h.k;refine⟨cR (by simpa using l1),by rw[dB a1];exact cR l2,by rw[dB a2,dB a4];exact h.p,by rw[dB a3,dB a5,hl];exact h.l,by rw[hp];exact h.len,λj x c h1 h2=>?_,h.nd⟩
 rw[hp] at h1;have hc:=zaR h2
 exact (h.mJ j x c h1 h2).only (F:=[y.k,y.a]) ((bI.set (by simp)).trans (bI.set (by simp))) λk hk q=>by
  rcases zap.mp q with rfl|q
  ·exact IC h.nd (.inr (.inl rfl)) c hc hk
  ·rw[zaS] at q
   subst q;exact IC h.nd (.inl rfl) c hc hk
theorem e_.anY (h:e_ S m y)(e1:m.pl=fX++[x])(e2:y.cs=ci++[c])(e3:ci.length=fX.length)(on:bI (lN c) S S')(hI:h_ S' x' ⟨c.i,S.length,S.length+1⟩):e_ S' (m.mh x') {y with cs:=ci++[⟨c.i,S.length,S.length+1⟩]}:=by
 obtain⟨d,a1,a2,a3,a4,b1,b2,b3,b4,c1,c2,c3,c4⟩:=DC h.nd (c:=c) (by rw[e2];simp)
 have nm:∀j,j≠c.i->j≠c.o->j≠c.s->j∉lN c:=λj h1 h2 h3 q=>by simp[lN] at q;rcases q with q|q|q;exact h1 q;exact h2 q;exact h3 q
 have ep:(m.mh x').pl=fX++[x']:=by unfold M.mh;simp[e1]
 refine⟨on.at h.a (nm _ a1.symm b1.symm c1.symm),on.at h.k (nm _ a2.symm b2.symm c2.symm),?_,on.at h.l (nm _ a4.symm b4.symm c4.symm),?_,?_,?_⟩
 ·have:=on.at h.p (nm _ a3.symm b3.symm c3.symm)
  rw[e2] at this;rw[this];simp
 ·rw[ep];simp[e3]
 ·intro j z cz h1 h2
  rw[ep] at h1;by_cases hj:j=fX.length
  ·subst hj
   rw[dF] at h1;rw[<-e3,dF] at h2;cases h1;cases h2
   exact hI
  ·have Hg:j<fX.length:=by
    have:=(zae.mp h1).1
    simp at this
    omega
   rw[zaj Hg] at h1;rw[zaj (by omega)] at h2
   have G4:y.cs[j]? = some cz:=by rw[e2,zaj (by omega)];exact h2
   refine (h.mJ j z cz (by rw[e1,zaj Hg];exact h1) G4).only on (A3 (Y_ h.nd) G4 (k:=fX.length) (by rw[e2,<-e3,dF]) hj)
 ·have nL:=h.lt
  have nd:=h.nd;have f1:fp y=(y.a::y.k::y.p::y.l::ci.flatMap lN++[c.i])++[c.o,c.s]:=by unfold fp;rw[e2];simp[lN]
  have f2:fp {y with cs:=ci++[⟨c.i,S.length,S.length+1⟩]}=(y.a::y.k::y.p::y.l::ci.flatMap lN++[c.i])++[S.length,S.length+1]:=by unfold fp;simp[lN]
  rw[f2];rw[f1] at nd nL;generalize (y.a::y.k::y.p::y.l::ci.flatMap lN++[c.i])=L at *
  refine zcl.mpr ⟨(zcl.mp nd).1,by simp,λj hj k hk=>?_⟩
  have:=nL j (zby _ hj)
  simp at hk
  omega
noncomputable def xM (m:M)(a b:Str):M:={m with kn:=m.kn++[b],p0:=m.p0.map (nZ a b),p1:=m.p1.map (nZ a b)}
noncomputable def Kl (m:M)(a b:Str):M:=match gW m with|some x=>(xM m a b).mh (x.nZ a b)|none=>xM m a b
theorem Vf (h:e_ S m y)(z:Sz m n)(hn:n+1<=1000)(a b:Str):
  ∃S' y',Ig [.hd y.a,.str a,.str b] S = .ok .bz S'/\e_ S' (Kl m a b) y'/\bI (fp y) S S'/\y'.a=y.a/\∀j∈fp y',j∈fp y\/S.length<=j:=by
 have hM:=h.rcd (xM m a b) rfl rfl
 have ha:=h.a;have hk:=h.k;have la:=bq ha;have k1:=fW hM (zai z.pl (by omega))
 obtain⟨a1,_⟩:=U9 h.nd;have hz:(m.kn.length<sizeLine)=True:=iP (by have:=z.kn;omega)
 have w0:=λS=>Zc m.p0 a b S (by have:=z.p0;omega)
 have w1:=λS=>Zc m.p1 a b S (by have:=z.p1;omega)
 have hk2:((xM m a b).kn.map Tr.str)=m.kn.map .str++[.str b]:=by simp[xM]
 have on:bI (fp y) S ((S.set y.k (.aM ((xM m a b).kn.map .str))).set y.a (.fH "Match" (mF (xM m a b) y))):=(bI.set (by simp[fp])).trans (bI.set (by simp[fp]))
 have c_:((S.set y.k (.aM ((xM m a b).kn.map .str))).set y.a (.fH "Match" (mF (xM m a b) y))).length=S.length:=by simp
 have e0:(S.set y.k (.aM (m.kn.map .str++[.str b])))[y.a]? = some (.fH "Match" (mF m y)):=by rw[dB a1.symm];exact ha
 rw[hk2] at hM k1 on c_;have hMa:=hM.a;generalize BN:(S.set y.k (.aM (m.kn.map .str++[.str b]))).set y.a (.fH "Match" (mF (xM m a b) y))=S2 at *
 have hgo:gW (xM m a b)=gW m:=rfl
 have hgt:P6 (xM m a b) y=P6 m y:=rfl
 unfold Ig Kl;cases hg:(gW m).isSome
 ·have eg:=gb h.len hg
  have en:gW m=none:=by
   cases hq:gW m with
   |none=>rfl
   |some x=>rw[hq] at hg;cases hg
  rw[en];rw[hgt,eg] at k1;refine⟨S2,y,?_,hM,on,rfl,λj hj=>.inl hj⟩
  unfold mF xM cT at *
  simp?[fx,ha,hk,hz,e0,w0,w1,AF,BN,hMa,k1]
 ·obtain⟨fX,x,ci,c,b1,b2,b3,b4,b5,b6⟩:=fO h.len hg
  have hI:=hM.rm (x:=x) b1 b2 b3
  obtain⟨d,_⟩:=DC h.nd (c:=c) (by rw[b2];simp)
  have Va:x∈m.pl:=by rw[b1];simp
  obtain⟨S3,k2,k3,k4⟩:=Qg hI d a b (zai (z.outs x Va) (by omega)) (zai (z.gU x Va) (by omega))
  have hi:=hI.i;rw[b6];rw[hgt,b5] at k1;refine⟨S3,_,?_,e_.anY hM b1 b2 b3 k4 k3,on.trans (k4.mono λj hj=>?_),rfl,λj hj=>?_⟩
  ·unfold mF xM cT jz at *
   simp?[fx,ha,hk,hz,e0,w0,w1,AF,BN,hMa,k1,hi,k2]
  ·unfold fp
   simp only[zap,zbx];exact .inr (.inr (.inr (.inr ⟨c,by rw[b2];simp,hj⟩)))
  ·rw[c_] at hj
   simp only[fp,zap,List.flatMap_append,zbC,zcZ,List.flatMap_nil,lN,zaC,or_false,b2] at hj ⊢
   rcases hj with q|q|q|q|q|q|q|q
   ·exact .inl (.inl q)
   ·exact .inl (.inr (.inl q))
   ·exact .inl (.inr (.inr (.inl q)))
   ·exact .inl (.inr (.inr (.inr (.inl q))))
   ·exact .inl (.inr (.inr (.inr (.inr (.inl q)))))
   ·exact .inl (.inr (.inr (.inr (.inr (.inr (.inl q))))))
   ·exact .inr (by omega)
   ·exact .inr (by omega)
noncomputable def QY (m:M):M:={m with clo:=true}
noncomputable def Km (m:M):M:=match gW m with|some x=>(QY m).mh { x with en:= "closed" } | none=>QY m
theorem e_.aj0 (h:e_ S m y)(m1:M)(hp:m1.pl=m.pl)(hl:m1.fN=m.fN)(hk:m1.kn=m.kn):e_ (S.set y.a (.fH "Match" (mF m1 y))) m1 y:=by
 have:=h.rcd m1 hp hl
 rw[hk,jo h.k] at this;exact this
theorem Vg (h:e_ S m y)(z:Sz m n)(hn:n<=1000):∃S',Ih [.hd y.a] S = .ok .bz S'/\e_ S' (Km m) y/\bI (fp y) S S':=by
 have hM:=h.aj0 (QY m) rfl rfl rfl
 have ha:=h.a;have la:=bq ha;have k1:=fW hM (zai z.pl (by omega))
 have on:bI (fp y) S (S.set y.a (.fH "Match" (mF (QY m) y))):=bI.set (by simp[fp])
 have hMa:=hM.a;generalize BN:S.set y.a (.fH "Match" (mF (QY m) y))=S2 at *
 have hgt:P6 (QY m) y=P6 m y:=rfl
 unfold Ih Km;cases hg:(gW m).isSome
 ·have eg:=gb h.len hg
  have en:gW m=none:=by
   cases hq:gW m with
   |none=>rfl
   |some x=>rw[hq] at hg;cases hg
  rw[en];rw[hgt,eg] at k1;refine⟨S2,?_,hM,on⟩
  unfold mF QY at *
  simp?[fx,ha,BN,hMa,k1]
 ·obtain⟨fX,x,ci,c,b1,b2,b3,b4,b5,b6⟩:=fO h.len hg
  have hI:=hM.rm (x:=x) b1 b2 b3
  obtain⟨d,_⟩:=DC h.nd (c:=c) (by rw[b2];simp)
  have k3:=lY (y:={ x with en:= "closed" }) hI d rfl rfl
  have hi:=hI.i;rw[b6];rw[hgt,b5] at k1;refine⟨_,?_,e_.mh (x':={ x with en:= "closed" }) hM b1 b2 b3,on.trans (bI.kJ λj hj=>?_)⟩
  ·unfold mF QY jz at *
   simp?[fx,ha,BN,hMa,k1,hi,k3]
  ·unfold fp
   simp only[zap,zbx];exact .inr (.inr (.inr (.inr ⟨c,by rw[b2];simp,hj⟩)))
noncomputable def sZ (m:M)(a b:Str):Option Str:=if a∉m.p0++m.p1 then some "team" else if b∈m.kn then some "name" else match gW m with|none=>none|some x=>if x.dD a=true\/a=x.wD then some "there" else none
theorem Kn (h:e_ S m y)(z:Sz m n)(hn:n<=1000)(a b:Str):HM [.hd y.a,.str a,.str b] S = .ok (dI (sZ m a b)) (S++[.aM ((m.p0++m.p1).map .str)]):=by
 unfold HM sZ;have k1:=Qc m.t0 m.t1 m.p0 m.p1 z.p0 z.p1 S;have h':e_ (S++[.aM ((m.p0++m.p1).map .str)]) m y:=h.only (F:=[]) bI.rJ (by simp)
 have k2:=fW h' (zai z.pl hn)
 have hL:(S++[Ce.aM ((m.p0++m.p1).map .str)])[S.length]? = some (.aM ((m.p0++m.p1).map .str)):=P9
 generalize S++[.aM ((m.p0++m.p1).map .str)]=S1 at *
 have ha:=h.a;have R7:=h'.a;have hk':=h'.k;unfold mF at ha R7;by_cases h1:a∈m.p0++m.p1
 ·by_cases h2:b∈m.kn
  ·simp?[fx,ha,k1,hL,R7,hk',gj,bF,gi,h1,h2,dI]
  ·cases hg:(gW m).isSome
   ·have eg:=gb h.len hg
    have en:gW m=none:=by
     cases hq:gW m with
     |none=>rfl
     |some x=>rw[hq] at hg;cases hg
    simp?[fx,ha,k1,k2,hL,R7,hk',gj,bF,gi,h1,h2,en,eg,dI]
   ·obtain⟨fX,x,ci,c,b1,b2,b3,b4,b5,b6⟩:=fO h.len hg
    have hI:=h'.rm b1 b2 b3;have k3:=kL hI a;have hi:=hI.i;unfold jz at hi;have k4:HL [.hd c.i,.str a] S1 = .ok (dI (if x.dD a=true\/a=x.wD then some "there" else none)) S1:=by
     unfold HL;cases h3:x.dD a
     ·by_cases h4:a=x.wD
      ·subst h4;simp?[fx,hi,k3,h3,dI]
      ·simp?[fx,hi,k3,h3,h4,dI]
     ·simp?[fx,hi,k3,h3,dI]
    generalize hr:(if x.dD a=true\/a=x.wD then some ("there" : Str) else none)=r at *
    simp?[fx,ha,k1,k2,hL,R7,hk',gj,bF,gi,h1,h2,b5,b6,k4,hr]
 ·simp?[fx,ha,k1,hL,gj,bF,gi,h1,dI]
noncomputable def A7 (m:M):Int:=match m.pl with|x::_=>x.bW|[]=>0
noncomputable def Vh (m:M):Bool:=if m.pl.length=2/\2 * m.ru.i=4/\m.Y5=false then decide (0<m.ru.f/\m.ru.f<=wF m (A7 m)) else false
noncomputable def n_ (m:M):Option Str:=if (gW m).isSome=true then some "going" else if Vh m=true then none else some "follow"
theorem aj1 (h:e_ S m y)(z:Sz m n)(hn:n<=1000):HN [.hd y.a] S = .ok (.bl (Vh m)) S:=by
 unfold HN Vh;have hs:m.pl.length<=1000:=zai z.pl hn
 have k1:=F3 h;have k2:=λs=>F4 h s hs
 have ha:=h.a;have hp:=h.p;have hz:(y.cs.length<=sizeLine)=True:=bO (by rw[h.len];omega)
 unfold mF U.t at ha;by_cases h2:m.pl.length=2
 ·have G4:((y.cs.length:Int)=2)=True:=eq_true (by rw[h.len,h2];rfl)
  by_cases h4:2 * m.ru.i=4
  ·cases hf:m.Y5
   ·have c_:=h.len
    cases hpl:m.pl with
    |nil=>rw[hpl] at h2;cases h2
    |cons x r =>
     cases VN:y.cs with
     |nil=>rw[VN,hpl] at c_;cases c_
     |cons c q =>
      have hi:=(h.mJ 0 x c (by rw[hpl];rfl) (by rw[VN];rfl)).i
      unfold jz at hi;have hl:A7 m=x.bW:=by unfold A7;rw[hpl]
      rw[VN] at hp G4 hz;rw[hpl] at h2;rw[zar] at h2 G4 hz;rw[rW] at hp;have L5:((q.map λc:L3=>Tr.hd c.i).length+1<=sizeLine)=True:=by rw[zad];exact hz
      have anZ:(((q.map λc:L3=>Tr.hd c.i).length+1:Nat):Int)=2:=by rw[zad];exact of_eq_true G4
      by_cases h5:0<m.ru.f<;>by_cases h6:m.ru.f<=wF m x.bW <;>
      simp?[fx,ha,hp,hi,hf,k1,k2,h4,h2,hl,hz,L5,G4,anZ,h5,h6,zar,zad,V9,gLe,K9,hpl]
   ·simp?[fx,ha,hp,hf,k1,h4,h2,hz,G4,zad]
  ·simp?[fx,ha,hp,k1,h4,h2,hz,G4,zad]
 ·have G4:((y.cs.length:Int)=2)=False:=eq_false (by rw[h.len];omega)
  simp?[fx,ha,hp,h2,hz,G4,zad]
theorem DF (h:e_ S m y)(z:Sz m n)(hn:n<=1000):HP [.hd y.a] S = .ok (dI (n_ m)) S:=by
 unfold HP n_;have k1:=fW h (zai z.pl hn)
 have k2:=aj1 h z hn;have ha:=h.a;unfold mF at ha;cases hg:(gW m).isSome
 ·have eg:=gb h.len hg
  cases hm:Vh m<;>simp?[fx,ha,k1,k2,eg,hm,dI]
 ·obtain⟨fX,x,ci,c,b1,b2,b3,b4,b5,b6⟩:=fO h.len hg
  simp?[fx,ha,k1,b5,dI]
end
noncomputable def rA (m:M)(e:gY):Option Str:=if sf m=true then some "done" else match e with
 |.c9 t f o b=>nE m t f o b
 |.swap a b=>sZ m a b
 |.ia=>n_ m
 |.lZ=>none
 |e=>d_ m e
noncomputable def Vi (m:M)(s:Int)(f o b:Str):M:={m with pl:=m.pl++[A4 s f o b]}
noncomputable def Qh (m:M)(e:gY):M:=match e with
 |.c9 t f o b=>Vi m ((A2 m t).getD 0) f o b
 |.swap a b=>Kl m a b
 |.ia=>{m with Y5:=true}
 |.lZ=>Km m
 |e=>match gW m with|some x=>mO m x e|none=>m
noncomputable def qp (m:M)(e:gY):M:=qo (Qh m e)
theorem B.Ko {b:B}{w:Str}(h:b.zk=some w):w.length<=100:=by
 unfold B.zk at h;split at h
 ·cases h;decide +kernel
 ·split at h
  ·cases h
  ·cases h;decide +kernel
theorem gR (h:d_ m e=some w):w.length<=100:=by
 unfold d_ at h;cases hg:gW m with
 |none=>rw[hg] at h;cases h;decide +kernel
 |some x =>
  rw[hg] at h;cases e with
  |mH b =>
   change x.je b=some w at h
   unfold I.je at h;repeat' split at h
   all_goals first | (cases h;done) | (cases h;decide +kernel) | (cases h;rename_i q;exact B.Ko q)
  |mJ k =>
   change x.Dz _ k=some w at h
   unfold I.Dz at h;repeat' split at h
   all_goals first | (cases h;done) | (cases h;decide +kernel)
  |qh k =>
   change x.ql _ _ k=some w at h
   unfold I.ql at h;repeat' split at h
   all_goals first | (cases h;done) | (cases h;decide +kernel)
  |qj k =>
   change (if x.dD k=true then none else some ("who" : Str))=some w at h
   split at h
   ·cases h
   ·cases h;decide +kernel
  |c9 _ _ _ _=>cases h
  |swap _ _=>cases h
  |fV=>cases h
  |ia=>cases h
  |lZ=>cases h
theorem Qi (h:rA m e=some w):w.length<=100:=by
 unfold rA at h;split at h
 ·cases h;decide +kernel
 ·cases e with
  |c9 t f o b =>
   simp only at h;unfold nE at h
   repeat' split at h
   all_goals first | (cases h;done) | (cases h;decide +kernel)
  |swap a b =>
   simp only at h;unfold sZ at h
   repeat' split at h
   all_goals first | (cases h;done) | (cases h;decide +kernel)
  |ia =>
   simp only at h;unfold n_ at h
   repeat' split at h
   all_goals first | (cases h;done) | (cases h;decide +kernel)
  |lZ=>cases h
  |mH b=>exact gR h
  |mJ k=>exact gR h
  |qh k=>exact gR h
  |qj k=>exact gR h
  |fV=>exact gR h
section
variable {S:Cs}{m:M}{y:Ly}{n:Nat}
theorem Zd (h:e_ S m y)(z:Sz m n)(hn:n<=1000)(e:gY):∃G,r9 [.hd y.a,e.t] S = .ok (dI (rA m e)) (S++G):=by
 by_cases hi:e.zm=true
 ·refine⟨[],?_⟩
  rw[DE h z hn e hi,zaw];unfold rA;cases e<;>first|rfl | (cases hi;done)
 ·have k1:=F5 h z hn
  have ha:=h.a;unfold r9 rA;unfold mF at ha;cases hd:sf m
  ·cases e with
   |c9 t f o b =>
    refine⟨[],?_⟩
    have k2:=F6 h z hn t f o b;unfold gY.t at *
    simp?[fx,ha,k1,hd,k2,zaw]
   |swap a b =>
    refine⟨[.aM ((m.p0++m.p1).map .str)],?_⟩
    have k2:=Kn h z hn a b;unfold gY.t at *
    simp?[fx,ha,k1,hd,k2]
   |ia =>
    refine⟨[],?_⟩
    have k2:=DF h z hn;unfold gY.t at *
    simp?[fx,ha,k1,hd,k2,zaw]
   |lZ =>
    refine⟨[],?_⟩
    unfold gY.t at *
    simp?[fx,ha,k1,hd,zaw,dI]
   |mH _=>exact absurd rfl hi
   |mJ _=>exact absurd rfl hi
   |qh _=>exact absurd rfl hi
   |qj _=>exact absurd rfl hi
   |fV=>exact absurd rfl hi
  ·refine⟨[],?_⟩
   simp?[fx,ha,k1,hd,zaw,dI]
theorem Sz.beg (z:Sz m n)(hs:s=0\/s=1)(hn:1<=n+1)(f o b:Str):Sz (Vi m s f o b) (n+1):=by
 have z':=z.mono (zbE n)
 have hm:∀w∈(Vi m s f o b).pl,w∈m.pl\/w=A4 s f o b:=λw hw=>by
  rcases zbC.mp (show w∈m.pl++[A4 s f o b] from hw) with q|q
  ·exact .inl q
  ·exact .inr (by simpa using q)
 refine⟨?_,z'.kn,z'.fN,z'.p0,z'.p1,λw hw=>?_,λw hw=>?_,λw hw=>?_⟩
 ·show (m.pl++[A4 s f o b]).length<=n+1
  have:=z.pl
  simp;exact this
 ·rcases hm w hw with q|rfl
  ·exact z'.outs w q
  ·show 0<=_;omega
 ·rcases hm w hw with q|rfl
  ·exact z'.gU w q
  ·show 1<=_;omega
 ·rcases hm w hw with q|rfl
  ·exact z'.bW w q
  ·exact hs
theorem ID (hg:gW m=some x):∃fX,m.pl=fX++[x]/\x.en="" := by
 rcases zcc m.pl with h|⟨fX,w,h⟩
 ·unfold gW at hg;rw[h] at hg;cases hg
 ·have h:m.pl=fX++[w]:=by simpa using h
  rw[qm h] at hg;split at hg
  ·cases hg;exact⟨fX,h,by assumption⟩
  ·cases hg
theorem Sz.xM (z:Sz m n)(a b:Str):Sz (xM m a b) (n+1):=by
 have z':=z.mono (zbE n)
 exact⟨z'.pl,by have:=z.kn;simp[My.xM];omega,z'.fN,by have:=z.p0;simpa[My.xM] using this,by have:=z.p1;simpa[My.xM] using this,z'.outs,z'.gU,z'.bW⟩
theorem Sz.sw (z:Sz m n)(a b:Str):Sz (Kl m a b) (n+1):=by
 unfold Kl;cases hg:gW m with
 |none=>exact z.xM a b
 |some x =>
  obtain⟨fX,e,_⟩:=ID hg;have hx:x∈m.pl:=by rw[e];simp
  have h1:=z.outs x hx;have h2:=z.gU x hx;exact (z.xM a b).mh (x:=x) (x':=x.nZ a b) e rfl (zai Qd (by omega)) (zai Qe (by omega))
theorem Sz.cl (z:Sz m n):Sz (Km m) n:=by
 unfold Km;have zb:Sz (QY m) n:=⟨z.pl,z.kn,z.fN,z.p0,z.p1,z.outs,z.gU,z.bW⟩
 cases hg:gW m with
 |none=>exact zb
 |some x =>
  obtain⟨fX,e,_⟩:=ID hg;have hx:x∈m.pl:=by rw[e];simp
  exact zb.mh (x:=x) (x':={ x with en:= "closed" }) e rfl (z.outs x hx) (z.gU x hx)
structure aj2 (S:Cs) (y:Ly) (S':Cs) (m':M) (y':Ly):Prop where
 gZ:e_ S' m' y'
 on:bI (fp y) S S'
 a:y'.a=y.a
 fp:∀j∈fp y',j∈My.fp y\/S.length<=j
theorem aj3 (h:e_ S m y)(z:Sz m n)(hn:n+1<=1000)(e:gY)(hr:rA m e=none):∃S' y',wB [.hd y.a,e.t] S = .ok .bz S'/\aj2 S y S' (Qh m e) y'/\Sz (Qh m e) (n+1):=by
 have ha:=h.a;unfold mF at ha;have k1:=fW h (zai z.pl (by omega))
 by_cases hi:e.zm=true
 ·have xC:d_ m e=none:=by
   unfold rA at hr;split at hr
   ·cases hr
   ·cases e<;>first|exact hr | (cases hi;done)
  unfold d_ at xC;cases hg:gW m with
  |none=>rw[hg] at xC;cases xC
  |some x =>
   obtain⟨fX,x2,ci,c,b1,b2,b3,b4,b5,b6⟩:=fO h.len (by rw[hg];rfl)
   rw[hg] at b6;cases b6;obtain⟨S1,k2,k3,k4⟩:=anR h z (by omega) b1 b2 b3 b4 e hi
   have ed:Qh m e=mO m x e:=by unfold Qh;rw[hg];cases e<;>first|rfl | (cases hi;done)
   rw[ed];exact⟨S1,y,k2,⟨k3,k4,rfl,λj hj=>.inl hj⟩,z.mO b1 e⟩
 ·unfold rA at hr
  split at hr
  ·cases hr
  ·unfold wB
   cases e with
   |c9 t f o b =>
    simp only at hr
    unfold nE at hr;split at hr
    ·cases hr
    ·rename_i hgo
     cases hs:A2 m t with
     |none=>rw[hs] at hr;cases hr
     |some s =>
      have k4:=Vb h z (by omega) t f o b s hs
      have hM:=h.ajW s f o b;have ed:Qh m (.c9 t f o b)=Vi m s f o b:=by unfold Qh;simp only;rw[hs];rfl
      rw[ed];refine⟨_,_,?_,⟨hM,bI.trans bI.rJ (bI.set (by simp[fp])),rfl,λj hj=>?_⟩,z.beg (Y9 hs) (by omega) f o b⟩
      ·unfold gY.t at *
       simp?[fx,ha,k4,k1]
      ·have VQ:fp {y with cs:=y.cs++[jF S.length]}=fp y++[S.length,S.length+1,S.length+2]:=by
        unfold fp;simp[lN,jF]
       rw[VQ] at hj;rcases zbC.mp hj with q|q
       ·exact .inl q
       ·simp at q;exact .inr (by omega)
   |swap a b =>
    obtain⟨S',y',k2,k3,k4,k5,k6⟩:=Vf h z hn a b;refine⟨S',y',?_,⟨k3,k4,k5,k6⟩,z.sw a b⟩
    unfold gY.t;simp?[fx,ha,k1,k2]
   |ia =>
    have hM:=h.aj0 {m with Y5:=true} rfl rfl rfl
    refine⟨_,y,?_,⟨hM,bI.set (by simp[fp]),rfl,λj hj=>.inl hj⟩,(show Sz {m with Y5:=true} (n+1) from let z':=z.mono (zbE n);⟨z'.pl,z'.kn,z'.fN,z'.p0,z'.p1,z'.outs,z'.gU,z'.bW⟩)⟩
    unfold gY.t mF;simp?[fx,ha,k1]
   |lZ =>
    obtain⟨S',k2,k3,k4⟩:=Vg h z (by omega)
    refine⟨S',y,?_,⟨k3,k4,rfl,λj hj=>.inl hj⟩,z.cl.mono (zbE n)⟩
    unfold gY.t;simp?[fx,ha,k1,k2]
   |mH _=>exact absurd rfl hi
   |mJ _=>exact absurd rfl hi
   |qh _=>exact absurd rfl hi
   |qj _=>exact absurd rfl hi
   |fV=>exact absurd rfl hi
theorem bI.fresh (a:bI F S S')(b:bI F' S' S'')(h:∀j∈F',j∈F\/S.length<=j):bI F S S'':=⟨zai a.1 b.1,λj h1 h2=>by
 rw[b.2 j (zan h1 a.1) λq=>(h j q).elim h2 λk=>by omega,a.2 j h1 h2]⟩
theorem Vj (h:e_ S m y)(z:Sz m n)(hn:n+1<=1000)(e:gY)(hr:rA m e=none):∃S' y',r_ [.hd y.a,e.t] S = .ok .bz S'/\aj2 S y S' (qp m e) y'/\Sz (qp m e) (n+1):=by
 obtain⟨G,k1⟩:=Zd h z (by omega) e
 rw[hr] at k1;have h0:e_ (S++G) m y:=h.only (F:=[]) bI.rJ (by simp)
 obtain⟨S1,y1,k2,k3,k4⟩:=aj3 h0 z hn e hr;obtain⟨S',k5,k6,k7⟩:=F9 h z e.t k1 h0 k3.a k2 k3.gZ k4 hn;have k3f:∀j∈fp y1,j∈fp y\/S.length<=j:=λj hj=>(k3.fp j hj).imp id λq=>by rw[zak] at q;omega
 exact⟨S',y1,k5,⟨k6,((bI.rJ (F:=fp y)).trans k3.on).fresh k7 k3f,k3.a,k3f⟩,k4.fS⟩
theorem Vk (h:e_ S m y)(z:Sz m n)(hn:n+1<=1000)(e:gY)(w:Str)(hr:rA m e=some w):∃S0,nu S S0/\r_ [.hd y.a,e.t] S = .ex S0.length (S0++[.xm "NotLet" [("rule",.str w),("number",.int 0)]]):=by
 obtain⟨G,k1⟩:=Zd h z (by omega) e
 rw[hr] at k1;exact⟨S++G,⟨G,rfl⟩,Kg w (Qi hr) e.t h.a k1⟩
end
theorem Gb {α:Type}{l:List α}{i:Int}(h0:0<=i)(h1:i<l.length):∃x∈l,jK l i=some x:=by
 obtain⟨j,hj⟩:=zbh h0;have Hg:j<l.length:=by omega
 exact⟨l[j],zdT Hg,by rw[hj];exact ic (zag Hg)⟩
theorem iU {l:List Str}{i:Int}(h0:0<=i)(h1:i<l.length):∃x∈l,jK (l.map Tr.str) i=some (.str x):=by
 obtain⟨t,ht,e⟩:=Gb (l:=l.map Tr.str) h0 (by simpa using h1)
 obtain⟨x,hx,rfl⟩:=zbw.mp ht;exact⟨x,hx,e⟩
theorem Vl {l:List Str}{n m:Int}(hm:m=l.length)(h0:0<m):∃x∈l,jK (l.map Tr.str) (n % m)=some (.str x):=iU (zcy _ (by omega)) (by rw[<-hm];exact zcb _ h0)
noncomputable def wI:List Str:=["bat","bat","bat","bye","leg","wide","no","nobye"]
noncomputable def IE (m:M):Str:=match l_ m with|none => "" |some s=>mK m s
structure fB where
 a:Int
 b:Int
 c:Int
 f:Str
 o:Str
 w:Str
 e:B
 q:Str
noncomputable def fB.t (r:fB):Tr:=.tp [.int r.a,.int r.b,.int r.c,.str r.f,.str r.o,.str r.w,r.e.t,.str r.q]
section
variable {S:Cs}{m:M}{y:Ly}{n:Nat}
theorem zv (h:e_ S m y)(z:Sz m n):Dp [.hd y.a] S = .ok (cT m.t0 m.t1 m.p0 m.p1) S:=by
 unfold Dp;have ha:=h.a;unfold mF cT at *
 simp?[fx,ha]
theorem Gd (z:Sz m n):f_ m=0\/f_ m=1:=by
 unfold f_;cases h:m.pl.getLast? with
 |none=>exact .inl rfl
 |some x=>exact z.bW x (List.mem_of_getLast? h)
theorem aeY (z:Sz m n)(e:l_ m=some s):s=0\/s=1:=by
 unfold l_ at e
 have:=Gd z
 repeat' split at e
 all_goals first | (cases e;done) | (cases e;omega)
theorem aeZ (h:e_ S m y)(z:Sz m n)(hn:n<=1000):zj [.hd y.a] S = .ok (.str (IE m)) S:=by
 unfold zj IE;have k1:=P7 h z hn;have ha:=h.a;unfold mF cT at *
 cases hq:l_ m with
 |none=>rw[hq] at k1;simp?[fx,ha,k1,mL]
 |some s =>
  rw[hq] at k1;have k2:=@jv m s (aeY z hq)
  simp?[fx,ha,k1,mL,k2]
theorem aj4 (h:e_ S m y){rs:List fB}(hr:m.fN=rs.map fB.t):Ip [.hd y.a] S = .ok (.ls m.fN) S:=by
 unfold Ip;have ha:=h.a;have hl:=h.l;unfold mF at ha;refine pV (S1:=S) (t:=.ls m.fN) ?_ (zbt ..) ?_
 ·simp?[fx,ha,hl]
 ·unfold B7
  have:Tr.az S.length (.ls m.fN)=true:=by
   rw[abx,zcp,hr];intro t ht;obtain⟨r,_,rfl⟩:=zbw.mp ht;unfold fB.t B.t;simp only[Ni,G9,Av,abw,zaA,zaL,zaE]
  simp only[this];rfl
end
structure Dr (m:M) (d n:Nat):Prop where
 z:Sz m n
 hn:n<=1000
 p0:m.p0.length=d
 p1:m.p1.length=d
 d2:2<=d
 d11:d<=11
 rs:∃rs:List fB,m.fN=rs.map fB.t
noncomputable def EK:gY->Prop|.mH b=>b.k∈wI|_=>True
theorem qt (D:Dr m d n)(s:Int):(iG m s).length=d:=by
 unfold iG;split
 ·exact D.p0
 ·exact D.p1
theorem IG (m:M):(qo m).fN=m.fN:=by unfold qo;split<;>rfl
theorem ae0 (m:M):(qo m).p0=m.p0:=by unfold qo;split<;>rfl
theorem ae1 (m:M):(qo m).p1=m.p1:=by unfold qo;split<;>rfl
theorem Ze (m:M)(a b:Str):(Kl m a b).p0=m.p0.map (nZ a b)/\(Kl m a b).p1=m.p1.map (nZ a b)/\(Kl m a b).fN=m.fN:=by unfold Kl;split<;>exact⟨rfl,rfl,rfl⟩
theorem Zf (m:M):(Km m).p0=m.p0/\(Km m).p1=m.p1/\(Km m).fN=m.fN:=by unfold Km;split<;>exact⟨rfl,rfl,rfl⟩
theorem ae2 (m:M)(x:I)(e:gY):(mO m x e).p0=m.p0/\(mO m x e).p1=m.p1/\((mO m x e).fN=m.fN\/∃b,(mO m x e).fN=m.fN++[iS m x b]):=by
 unfold mO;split
 ·exact⟨rfl,rfl,.inr ⟨_,rfl⟩⟩
 all_goals exact⟨rfl,rfl,.inl rfl⟩
theorem aj5 (m:M)(e:gY):(Qh m e).p0.length=m.p0.length/\(Qh m e).p1.length=m.p1.length/\((Qh m e).fN=m.fN\/∃x b,(Qh m e).fN=m.fN++[iS m x b]):=by
 have Ba:∀e,(match gW m with|some x=>mO m x e|none=>m).p0.length=m.p0.length/\(match gW m with|some x=>mO m x e|none=>m).p1.length=m.p1.length/\((match gW m with|some x=>mO m x e|none=>m).fN=m.fN\/∃x b,(match gW m with|some x=>mO m x e|none=>m).fN=m.fN++[iS m x b]):=λe=>by
  cases gW m with
  |none=>exact⟨rfl,rfl,.inl rfl⟩
  |some x =>
   obtain⟨h1,h2,h3⟩:=ae2 m x e;exact⟨by simp only[h1],by simp only[h2],h3.imp id λ⟨b,q⟩=>⟨x,b,q⟩⟩
 cases e with
 |c9 t f o b=>exact⟨rfl,rfl,.inl rfl⟩
 |swap a b =>
  obtain⟨h1,h2,h3⟩:=Ze m a b;show (Kl m a b).p0.length=_/\(Kl m a b).p1.length=_/\((Kl m a b).fN=_\/∃x c,(Kl m a b).fN=m.fN++[iS m x c])
  rw[h1,h2,h3];exact⟨by simp,by simp,.inl rfl⟩
 |ia=>exact⟨rfl,rfl,.inl rfl⟩
 |lZ =>
  obtain⟨h1,h2,h3⟩:=Zf m;show (Km m).p0.length=_/\(Km m).p1.length=_/\((Km m).fN=_\/∃x c,(Km m).fN=m.fN++[iS m x c])
  rw[h1,h2,h3];exact⟨rfl,rfl,.inl rfl⟩
 |mH b=>exact Ba _
 |mJ b=>exact Ba _
 |qh b=>exact Ba _
 |qj b=>exact Ba _
 |fV=>exact Ba _
theorem Dr.an0 (D:Dr m d n)(e:gY)(z:Sz (qp m e) (n+1))(hn:n+1<=1000):Dr (qp m e) d (n+1):=by
 obtain⟨h1,h2,h3⟩:=aj5 m e;refine⟨z,hn,?_,?_,D.d2,D.d11,?_⟩
 ·unfold qp;rw[ae0,h1,D.p0]
 ·unfold qp;rw[ae1,h2,D.p1]
 ·unfold qp
  rw[IG];obtain⟨rs,er⟩:=D.rs;rcases h3 with q|⟨x,b,q⟩
  ·exact⟨rs,by rw[q,er]⟩
  ·refine⟨rs++[⟨(m.pl.length:Int) - 1,x.ov,x.ba,x.o6,x.wR,x.wD,b,x.Ea b⟩],?_⟩
   rw[q,er,zaD];rfl
theorem Dr.mono (D:Dr m d n)(h:n<=n')(hn:n'<=1000):Dr m d n':=⟨D.z.mono h,hn,D.p0,D.p1,D.d2,D.d11,D.rs⟩
noncomputable def DG (c a l n b:Tr):List (dh×Tr):=[(.inr (Str.ofString "cells"),c),(.inr (Str.ofString "at"),a),(.inr (Str.ofString "left"),l),(.inr (Str.ofString "number"),n),(.inr (Str.ofString "digits"),b)]
section
variable {c a l n b t:Tr}
theorem Qj:aH (.inr (Str.ofString "cells")) (DG c a l n b)=some c:=by kernel_rfl
theorem Qk:aH (.inr (Str.ofString "at")) (DG c a l n b)=some a:=by kernel_rfl
theorem Ql:aH (.inr (Str.ofString "left")) (DG c a l n b)=some l:=by kernel_rfl
theorem Qm:aH (.inr (Str.ofString "number")) (DG c a l n b)=some n:=by kernel_rfl
theorem Qn:aH (.inr (Str.ofString "digits")) (DG c a l n b)=some b:=by kernel_rfl
theorem Qo:d8 (DG c a l n b) (.inr (Str.ofString "at")) t=DG c t l n b:=by kernel_rfl
theorem Qp:d8 (DG c a l n b) (.inr (Str.ofString "left")) t=DG c a t n b:=by kernel_rfl
theorem Qq:d8 (DG c a l n b) (.inr (Str.ofString "number")) t=DG c a l t b:=by kernel_rfl
theorem A8:((DG c a l n b).length<sizeLine)=True:=eq_true (by show 5<sizeLine;decide)
theorem II:eW [] [(.inr (Str.ofString "cells"),c),(.inr (Str.ofString "at"),a),(.inr (Str.ofString "left"),l),(.inr (Str.ofString "number"),n),(.inr (Str.ofString "digits"),b)]=DG c a l n b:=by kernel_rfl
end
noncomputable def cH (S:Cs)(d k:Nat):Prop:=∃(cs:List Int) (a l n:Int) (b:Bool),S[d]? = some (.gS (DG (.ls (cs.map .int)) (.int a) (.int l) (.int n) (.bl b)))/\cs≠[]/\cs.length<=1000/\0<=a/\a<=k
theorem cH.mono (h:cH S d k)(hk:k<=j):cH S d j:=by
 obtain⟨cs,a,l,n,b,h1,h2,h3,h4,h5⟩:=h;exact⟨cs,a,l,n,b,h1,h2,h3,h4,by omega⟩
theorem cH.lt (h:cH S d k):d<S.length:=by
 obtain⟨cs,a,l,n,b,h1,_⟩:=h;exact Fp h1
theorem cH.rJ (h:cH S d k)(X:Cs):cH (S++X) d k:=by
 obtain⟨cs,a,l,n,b,h1,h2⟩:=h;exact⟨cs,a,l,n,b,pZ h1 X,h2⟩
theorem cH.an1 (h:cH S d k)(hi:i≠d)(c:Ce):cH (S.set i c) d k:=by
 obtain⟨cs,a,l,n,b,h1,h2⟩:=h;exact⟨cs,a,l,n,b,Fq h1 hi,h2⟩
theorem ae3 (h:cH S d k)(hk:k<1000000)(h0:0<many)(h1:many<1000000):∃(v:Int) (c:Ce),0<=v/\v<many/\bM [.hd d,.int many] S = .ok (.int v) (S.set d c)/\cH (S.set d c) d (k+1):=by
 obtain⟨cs,a,l,n,b,hd,sA,hl,ha,hak⟩:=h;have hs:∀c,(S.set d c)[d]? = some c:=λc=>oX (Fp hd)
 have c1:(0<many)=True:=eq_true h0
 have c2:(many<1073741824)=True:=eq_true (by omega)
 have ag3:=List.length_pos_iff.mpr sA;have c3:((0:Int)<(cs.length:Int))=True:=eq_true (by omega)
 have c4:(cs.length<=sizeLine)=True:=bO (by omega)
 have e1:Str.ofString "cells"=Str.ofString "cells" := rfl
 obtain⟨x,hx⟩:∃x,jK (cs.map Tr.int) ((a+1) % (cs.length:Int))=some (.int x):=by
  obtain⟨t,ht,e⟩:=Hf (l:=cs.map Tr.int) (n:=a+1) (m:=(cs.length:Int)) (by simp) (by omega)
  obtain⟨x,_,rfl⟩:=zbw.mp ht;exact⟨x,e⟩
 unfold bM;cases b with
 |true =>
  by_cases V5:l - 1=0
  ·refine⟨n % many,_,zcy _ (by omega),zcb _ h0,by simp?[hd,hs,Qj,Qk,Ql,Qm,Qn,Qo,Qp,Qq,A8,c1,c2,c3,c4,V5,hx,zco];rfl,cs,a+1,_,_,true,hs _,sA,hl,by omega,by omega⟩
  ·refine⟨n % many,_,zcy _ (by omega),zcb _ h0,by simp?[hd,hs,Qj,Qk,Ql,Qm,Qn,Qo,Qp,Qq,A8,c1,c2,c3,c4,V5,hx,zco];rfl,cs,a,_,_,true,hs _,sA,hl,by omega,by omega⟩
 |false =>
  generalize hy:(x % 2147483629+(a+1) * (a+1) * 7919+11) * 48271 % 2147483647=y
  have hy0:0<=y:=by rw[<-hy];exact zcy _ (by decide)
  have hy1:y<2147483647:=by rw[<-hy];exact zcb _ (by decide)
  refine⟨y * y % 1999999973 / 7 % many,.gS (DG (.ls (cs.map .int)) (.int (a+1)) (.int l) (.int n) (.bl false)),zcy _ (by omega),zcb _ h0,?_,cs,a+1,_,_,false,hs _,sA,hl,by omega,by omega⟩
  simp?[hd,hs,Qj,Qk,Ql,Qm,Qn,Qo,Qp,Qq,A8,c1,c2,c3,c4,hx,zco];rw[z_ (by omega),hy,z_ (by omega)]
theorem Vm:(Tr.ls []).qO=true:=by
 unfold Tr.qO Tr.pP;rfl
theorem Qs:(Tr.ls []).dp<=50/\(Tr.ls []).dp≠0:=by
 unfold Tr.dp Tr.DX;decide
theorem ae4 (h:vw 6 S t = .ls [])(hs:MW t (.ls [])=none):bY neg t (.ls []) S = .ok (.bl (!neg)) S:=by
 have e:vw 6 S (.ls []) = .ls []:=rfl
 have hc:vw 6 S t=vw 6 S (.ls [])/\(vw 6 S t).qO=true/\(vw 6 S t).dp<=50/\(vw 6 S t).dp≠0:=by
  rw[h,e];exact⟨rfl,Vm,Qs.1,Qs.2⟩
 unfold bY;rw[hs];exact if_pos hc
theorem ae5:Cf neg (.kl l) (.ls []) S = .ok (.bl (if neg=true then !l.isEmpty else l.isEmpty)) S:=by
 unfold Cf;show (if l.length=0 then _ else _)=_
 cases l with
 |nil =>
  rw[if_pos (show ([]:List Tr).length=0 from rfl),ae4 rfl rfl]
  cases neg<;>rfl
 |cons x r =>
  rw[if_neg (by simp)]
  cases neg<;>rfl
theorem Vn (ns:List Int)(Jk:ns.length<=63)(S:Cs):∃c,De [.kl (ns.map .int)] S = .ok (.hd S.length) (S++[c])/\cH (S++[c]) S.length 0:=by
 unfold De;have e2:=λS=>ae5 (neg:=false) (l:=ns.map Tr.int) (S:=S)
 have hd0:=yv S []
 have hs0:=λc=>Au S (Ce.gS []) c
 have hl0:=zak (as:=S) (bs:=[Ce.gS []])
 cases ns with
 |nil =>
  have c1:(0+1<=sizeLine)=True:=bO (by omega)
  have er:NO (.ls [.int 0]) (.int 1) S = .ok (.ls [.int 0]) S:=by kernel_rfl
  have ei:mE [.bl true] S = .ok (.int 1) S:=rfl
  have e3:Cf false (.kl []) (.ls []) S = .ok (.bl true) S:=e2 S
  refine⟨.gS (DG (.ls ([0].map .int)) (.int 0) (.int 60) (.int (0 / 2)) (.bl (decide ((0:Int) % 2=0)))),?_,[0],0,60,0 / 2,_,i_ _ _,by simp,by simp,by omega,by omega⟩
  simp?[↓e3,↓er,↓ei,II,hd0,hs0]
 |cons x r =>
  have e3:Cf false (.kl ((x::r).map .int)) (.ls []) S = .ok (.bl false) S:=e2 S
  simp only[rW] at e3;have er:NO (.ls [.int 0]) (.int 0) S = .ok (.ls []) S:=by kernel_rfl
  have ei:mE [.bl false] S = .ok (.int 0) S:=rfl
  have hl:r.length+1<=63:=by simpa using Jk
  have c1:(r.length+1<=sizeLine)=True:=bO (by omega)
  have c2:(r.length+1+0<=sizeLine)=True:=bO (by omega)
  refine⟨.gS (DG (.ls ((x::r).map .int)) (.int 0) (.int 60) (.int (x / 2)) (.bl (decide (x % 2=0)))),?_,x::r,0,60,x / 2,_,i_ _ _,by simp,by simp;omega,by omega,by omega⟩
  simp?[↓e3,↓er,↓ei,c1,c2,II,hd0,hs0,zaw]
structure Dk (S S':Cs) (d k:Nat):Prop where
 on:bI [d] S S'
 gZ:cH S' d k
theorem Dk.tr (a:Dk S S1 d k)(b:Dk S1 S2 d k'):Dk S S2 d k':=⟨a.on.trans b.on,b.gZ⟩
theorem Dk.mono (a:Dk S S' d k)(h:k<=k'):Dk S S' d k':=⟨a.on,a.gZ.mono h⟩
theorem Dk.get (a:Dk S S' d k)(h:S[j]? = some c)(hj:j≠d):S'[j]? = some c:=a.on.at h (by simpa using hj)
theorem eE (h:cH S d k)(hk:k<900000)(h0:0<many)(h1:many<1000000):∃(v:Int) (S':Cs),0<=v/\v<many/\bM [.hd d,.int many] S = .ok (.int v) S'/\Dk S S' d (k+1):=by
 obtain⟨v,c,v0,v1,e,hD⟩:=ae3 h (by omega) h0 h1
 exact⟨v,S.set d c,v0,v1,e,⟨bI.set (by simp),hD⟩⟩
theorem Qt (h:cH S d k)(hk:k<800000):∃(u:U) (S':Cs),HG [.hd d] S = .ok u.t S'/\Dk S S' d (k+12)/\2<=u.d/\u.d<=11:=by
 obtain⟨a1,S1,l1,m1,e1,D1⟩:=eE h (by omega) (many:=6) (by decide) (by decide)
 obtain⟨a2,S2,l2,m2,e2,D2⟩:=eE D1.gZ (by omega) (many:=5) (by decide) (by decide)
 obtain⟨a3,S3,l3,m3,e3,D3⟩:=eE D2.gZ (by omega) (many:=3) (by decide) (by decide)
 obtain⟨a4,S4,l4,m4,e4,D4⟩:=eE D3.gZ (by omega) (many:=3) (by decide) (by decide)
 obtain⟨a5,S5,l5,m5,e5,D5⟩:=eE D4.gZ (by omega) (many:=3) (by decide) (by decide)
 have D05:Dk S S5 d (k+5):=(((D1.tr D2).tr D3).tr D4).tr D5
 have hd5:=D5.gZ.lt;obtain⟨S6,hS6⟩:∃S6,S6=S5++[Ce.aM [.int (1+a1),.int a2,.int a3,.int a4,.int a5]]:=⟨_,rfl⟩
 have c6:S6[S5.length]? = some (.aM [.int (1+a1),.int a2,.int a3,.int a4,.int a5]):=by rw[hS6];exact i_ _ _
 have D06:Dk S S6 d (k+5):=by rw[hS6];exact⟨D05.on.trans bI.rJ,D05.gZ.rJ _⟩
 obtain⟨a6,S7,l6,m6,e6,D7⟩:=eE D06.gZ (by omega) (many:=4) (by decide) (by decide)
 have c7:=D7.get c6 (by omega)
 have D07:=D06.tr D7;have key:∃(x4 x5:Int) (S8:Cs),(Dk S S8 d (k+8))/\S8[S5.length]? = some (.aM [.int (1+a1),.int a2,.int a3,.int x4,.int x5])/\(∀ τ,τ=[some (Tr.hd d),some (.hd S5.length),none]->(cy (mB (ai (bY false) (dM 2 bM (af (aa 0) (af (mC (.int 4)) aj))) (mC (.int 0)))) (mG (kr (af (dM 2 bM (af (aa 0) (af (mC (.int 10)) aj))) (af (dM 2 bM (af (aa 0) (af (mC (.int 10)) aj))) aj))) (NU (aa 1) (mC (.int 3)) (mC (.int 5)))) ay) τ S6 = .nx τ S8):=by
  by_cases q:a6=0
  ·obtain⟨b1,T1,n1,p1,f1,E1⟩:=eE D07.gZ (by omega) (many:=10) (by decide) (by decide)
   obtain⟨b2,T2,n2,p2,f2,E2⟩:=eE E1.gZ (by omega) (many:=10) (by decide) (by decide)
   have c8:=E2.get (E1.get c7 (by omega)) (by omega)
   refine⟨b1,b2,T2.set S5.length (.aM [.int (1+a1),.int a2,.int a3,.int b1,.int b2]),?_,oX (Fp c8),?_⟩
   ·have D:=(D07.tr E1).tr E2
    exact⟨D.on.fresh (F':=[S5.length]) (bI.set (by simp)) (λj hj=>by rw[zaS] at hj;subst hj;exact .inr D05.on.1),(D.gZ.an1 (by omega) _).mono (by omega)⟩
   ·rintro τ rfl
    have hz:(5+2<=sizeLine)=True:=bO (by decide)
    simp?[e6,q,f1,f2,NU,c8,hz,List.take_succ_cons,List.take_zero,List.drop_succ_cons,List.drop_nil,List.drop_zero,zbX,Hv]
  ·refine⟨a4,a5,S7,D07.mono (by omega),c7,?_⟩
   rintro τ rfl
   simp?[e6,q]
 obtain⟨x4,x5,S8,D8,c8,f8⟩:=key;have f8:=f8 _ rfl;generalize hI:cy (mB (ai (bY false) (dM 2 bM (af (aa 0) (af (mC (.int 4)) aj))) (mC (.int 0)))) (mG (kr (af (dM 2 bM (af (aa 0) (af (mC (.int 10)) aj))) (af (dM 2 bM (af (aa 0) (af (mC (.int 10)) aj))) aj))) (NU (aa 1) (mC (.int 3)) (mC (.int 5)))) ay=IF at *
 obtain⟨a7,S9,l7,m7,e7,D9⟩:=eE D8.gZ (by omega) (many:=4) (by decide) (by decide)
 obtain⟨a8,S10,l8,m8,e8,D10⟩:=eE D9.gZ (by omega) (many:=8) (by decide) (by decide)
 obtain⟨a9,S11,l9,m9,e9,D11⟩:=eE D10.gZ (by omega) (many:=2) (by decide) (by decide)
 obtain⟨Jo,S12,l10,m10,e10,D12⟩:=eE D11.gZ (by omega) (many:=2) (by decide) (by decide)
 have c12:=D12.get (D11.get (D10.get (D9.get c8 (by omega)) (by omega)) (by omega)) (by omega)
 have hat:∃sd:Int,2<=sd/\sd<=11/\jK [Tr.int (2+a7),.int 11] (if a8=0 then 1 else 0)=some (.int sd):=by
  by_cases q:a8=0
  ·exact⟨11,by decide,by decide,by rw[if_pos q];rfl⟩
  ·exact⟨2+a7,by omega,by omega,by rw[if_neg q];rfl⟩
 obtain⟨sd,s2,s11,hat⟩:=hat;refine⟨⟨1+a1,a2,a3,x4,x5,sd,1+a9,Jo * 5⟩,S12,?_,(((((D8.tr D9).tr D10).tr D11).tr D12)).mono (by omega),s2,s11⟩
 unfold HG U.t;rw[hI];have hz:(5+3<=sizeLine)=True:=bO (by decide)
 have gt:∀(l:List Tr) (S:Cs),lB [.ls l] S = .ok (.tp l) S:=λ_ _=>rfl
 simp?[e1,e2,e3,e4,e5,<-hS6,f8,e7,e8,e9,e10,c12,hat,hz,gt]
noncomputable def Kp:Str:= "abcdfghjklmp"
theorem Vo (i:Int):∃c,jK Kp.cps.toList (i % 12)=some c:=by
 obtain⟨c,_,e⟩:=Hf (l:=Kp.cps.toList) (n:=i) (m:=12) (by decide +kernel) (by decide)
 exact⟨c,e⟩
theorem aj6 {v:Int}(h0:0<=v)(h1:v<3):(pJ (Str.ofString "t") (1+v).toNat).length<=9/\(Str.ofString "t").length * (1+v).toNat<=1000000:=by
 have h:∀n:Fin 5,(pJ (Str.ofString "t") n).length<=9:=by decide +kernel
 have e:(Str.ofString "t").length=1:=by decide +kernel
 exact⟨h ⟨(1+v).toNat,by omega⟩,by rw[e];omega⟩
theorem aj7 {v:Int}(h0:0<=v)(h1:v<3):(pJ (Str.ofString "v") v.toNat).length<=9/\(Str.ofString "v").length * v.toNat<=1000000:=by
 have h:∀n:Fin 5,(pJ (Str.ofString "v") n).length<=9:=by decide +kernel
 have e:(Str.ofString "v").length=1:=by decide +kernel
 exact⟨h ⟨v.toNat,by omega⟩,by rw[e];omega⟩
theorem Qu {S:Cs}{d k:Nat}(h:cH S d k)(hk:k<700000)(sd:Nat)(h2:2<=sd)(h11:sd<=11):∃(t0 t1:Str) (p0 p1:List Str) (S':Cs),HJ [.hd d,.int sd] S = .ok (cT t0 t1 p0 p1) S'/\Dk S S' d (k+30)/\p0.length=sd/\p1.length=sd:=by
 obtain⟨a1,S1,l1,m1,e1,D1⟩:=eE h (by omega) (many:=12) (by decide) (by decide)
 have hr:(-4611686018427387904<=(sd:Int)/\(sd:Int)<4611686018427387904)=True:=eq_true (by omega)
 have hL:Kp.length=12:=by decide +kernel
 have hat:=Vo;unfold HJ;rw[show Str.ofString "abcdfghjklmp"=Kp from rfl];have hLl:(Kp.length<=sizeLine)=True:=bO (by rw[hL];decide)
 have hv1:(Str.ofString "v").length=1:=by decide +kernel
 generalize Kp=L at *
 simp?[e1,hr,zbn];generalize hZ:cW _ _ _ _ _ _ _ _=Z
 obtain⟨fC,an8,S2,⟨_,⟨p0,rfl,lp0⟩,D2⟩,rfl⟩:=yy hZ (λi τ bU S'=>(∃v,τ=[some (.str L),some (.hd d),some (.int a1),v])/\(∃p:List Str,bU=p.map .str/\p.length=i)/\Dk S S' d (k+1+i)) (λ_ _ _ _ _=>trivial) ⟨⟨_,rfl⟩,⟨[],rfl,rfl⟩,D1⟩ (by rw[nq];omega) (by
  rintro i t τ bU S' ht ⟨⟨v,rfl⟩,⟨p,rfl,lp⟩,D⟩
  obtain⟨nL,rfl⟩:=uC ht;obtain⟨b,S3,b0,b1,eb,Db⟩:=eE D.gZ (by omega) (many:=3) (by decide) (by decide)
  obtain⟨c,ec⟩:=hat (a1+(i:Int))
  obtain⟨r1,r2⟩:=aj6 b0 b1;have c1:(0<=1+b)=True:=eq_true (by omega)
  have c2:(1+b<1000000)=True:=eq_true (by omega)
  have c3:((Str.ofString "t").length * (1+b).toNat<=1000000)=True:=eq_true r2
  generalize hR:pJ (Str.ofString "t") (1+b).toNat=R1 at *
  have c4:(R1.length+1<=sizeLine)=True:=bO (by omega)
  refine⟨[some (.str L),some (.hd d),some (.int a1),some (.int (0+(i:Int)))],.str (R1++⟨#[c]⟩),S3,rfl,?_,⟨_,rfl⟩,⟨p++[R1++⟨#[c]⟩],by simp,by simp[lp]⟩,(D.tr Db).mono (by omega)⟩
  simp?[eb,ec,hLl,c1,c2,c3,c4,A1,hR])
 rw[nq] at lp0 D2;simp?[hr,zbn];generalize hZ:cW _ _ _ _ _ _ _ _=Z
 obtain⟨fC,an8,S3,⟨_,⟨p1,rfl,lp1⟩,D3⟩,rfl⟩:=yy hZ (λi τ bU S'=>(∃v,τ=[some (.str L),some (.hd d),some (.int a1),v])/\(∃p:List Str,bU=p.map .str/\p.length=i)/\Dk S S' d (k+1+sd+i)) (λ_ _ _ _ _=>trivial) ⟨⟨_,rfl⟩,⟨[],rfl,rfl⟩,D2⟩ (by rw[nq];omega) (by
  rintro i t τ bU S' ht ⟨⟨v,rfl⟩,⟨p,rfl,lp⟩,D⟩
  obtain⟨nL,rfl⟩:=uC ht;obtain⟨b,S3,b0,b1,eb,Db⟩:=eE D.gZ (by omega) (many:=3) (by decide) (by decide)
  obtain⟨c,ec⟩:=hat (a1+(i:Int))
  obtain⟨r1,r2⟩:=aj7 b0 b1;have c1:(0<=b)=True:=eq_true (by omega)
  have c2:(b<1000000)=True:=eq_true (by omega)
  have c3:((Str.ofString "v").length * b.toNat<=1000000)=True:=eq_true r2
  generalize hR:pJ (Str.ofString "v") b.toNat=R1 at *
  have c4:(1+1+R1.length<=sizeLine)=True:=bO (by omega)
  have c5:(1+1<=sizeLine)=True:=bO (by decide)
  rw[hv1] at c3;refine⟨[some (.str L),some (.hd d),some (.int a1),some (.int (0+(i:Int)))],.str (Str.ofString "v"++⟨#[c]⟩++R1),S3,rfl,?_,⟨_,rfl⟩,⟨p++[Str.ofString "v"++⟨#[c]⟩++R1],by simp,by simp[lp]⟩,(D.tr Db).mono (by omega)⟩
  simp?[eb,ec,hLl,c1,c2,c3,c4,c5,A1,UP,hv1,hR])
 rw[nq] at lp1 D3;obtain⟨a2,S4,l2,m2,e2,D4⟩:=eE D3.gZ (by omega) (many:=2) (by decide) (by decide)
 obtain⟨x,_,ex⟩:=iU (l:=p0) (i:=0) (by decide) (by omega)
 obtain⟨y,p1',hy⟩:∃y p',p1=p'++[y]:=by
  rcases zcc p1 with q|⟨p',y,q⟩
  ·rw[q] at lp1;simp at lp1;omega
  ·exact⟨y,p',by rw[q,List.concat_eq_append]⟩
 have ey:jK (p1.map Tr.str) (-1)=some (.str y):=by rw[hy,zaD];exact kM _ _
 by_cases q:a2=0
 ·refine⟨Str.ofString "tz",y,p0,p1,S4,?_,(D3.tr D4).mono (by omega),lp0,lp1⟩
  unfold cT;simp?[e2,q,ex,ey,Ac]
 ·refine⟨x,Str.ofString "vx",p0,p1,S4,?_,(D3.tr D4).mono (by omega),lp0,lp1⟩
  unfold cT;simp?[e2,q,ex]
theorem IJ (h:cH S d k)(hk:k<700000)(f o:Str):∃(b:B) (S':Cs),Il [.hd d,.ls [.str f,.str o]] S = .ok b.t S'/\Dk S S' d (k+5)/\b.k∈wI:=by
 obtain⟨a1,S1,l1,m1,e1,D1⟩:=eE h (by omega) (many:=8) (by decide) (by decide)
 obtain⟨a2,S2,l2,m2,e2,D2⟩:=eE D1.gZ (by omega) (many:=12) (by decide) (by decide)
 obtain⟨a3,S3,l3,m3,e3,D3⟩:=eE D2.gZ (by omega) (many:=9) (by decide) (by decide)
 have Vp:=(D1.tr D2).tr D3
 obtain⟨kd,hkd,ek⟩:=iU (l:=wI) (i:=a1) l1 m1
 obtain⟨t,ht,er⟩:=Gb (l:=[Tr.int 0,.int 0,.int 1,.int 1,.int 2,.int 3,.int 4,.int 4,.int 6,.int 6,.int 5,.int 9]) (i:=a2) l2 m2
 obtain⟨r,rfl⟩:∃r,t = .int r:=by
  simp only[zap,zaC,or_false] at ht;rcases ht with rfl|rfl|rfl|rfl|rfl|rfl|rfl|rfl|rfl|rfl|rfl|rfl<;>exact⟨_,rfl⟩
 have ek':jK [Tr.str "bat",.str "bat",.str "bat",.str "bye",.str "leg",.str "wide",.str "no",.str "nobye"] a1=some (.str kd):=ek
 unfold Il;simp?[e1,e2,e3,ek',er];clear e1 e2 e3 ek ek' er ht
 by_cases q0:a3=0
 ·obtain⟨a4,S4,l4,m4,e4,D4⟩:=eE Vp.gZ (by omega) (many:=2) (by decide) (by decide)
  obtain⟨a5,S5,l5,m5,e5,D5⟩:=eE D4.gZ (by omega) (many:=2) (by decide) (by decide)
  obtain⟨w,_,ew⟩:=iU (l:=[f,o]) (i:=a4) l4 m4
  obtain⟨en,_,ee⟩:=iU (l:=["strike","other"]) (i:=a5) l5 m5
  simp only[rW,zaJ] at ew ee;refine⟨⟨kd,r,false,"run",w,en⟩,S5,?_,((Vp.tr D4).tr D5).mono (by omega),hkd⟩
  unfold B.t;simp?[q0,e4,e5,ew,ee]
 ·by_cases q1:a3=1/\kd="bat"
  ·obtain⟨a4,S4,l4,m4,e4,D4⟩:=eE Vp.gZ (by omega) (many:=5) (by decide) (by decide)
   obtain⟨w,_,ew⟩:=iU (l:=["bowled","caught","before","stumped","hit"]) (i:=a4) l4 m4
   simp only[rW,zaJ] at ew;refine⟨⟨kd,0,false,w,"",""⟩,S4,?_,(Vp.tr D4).mono (by omega),hkd⟩
   obtain⟨q1,q2⟩:=q1;subst q2;unfold B.t;simp?[q1,e4,ew]
  ·by_cases q2:a3=1/\kd="wide"
   ·obtain⟨a4,S4,l4,m4,e4,D4⟩:=eE Vp.gZ (by omega) (many:=2) (by decide) (by decide)
    obtain⟨w,_,ew⟩:=iU (l:=["stumped","hit"]) (i:=a4) l4 m4
    simp only[rW,zaJ] at ew;refine⟨⟨kd,0,false,w,"",""⟩,S4,?_,(Vp.tr D4).mono (by omega),hkd⟩
    obtain⟨q2,q3⟩:=q2;subst q3;have nwb:¬ (Str.ofString "wide"=Str.ofString "bat"):=by decide +kernel
    unfold B.t;simp?[q2,e4,ew,nwb]
   ·obtain⟨a4,S4,l4,m4,e4,D4⟩:=eE Vp.gZ (by omega) (many:=4) (by decide) (by decide)
    generalize hO:V8 _ _=O
    have hR:∃ ρ:Bool,∀x0 x1 x4 x5,O [x0,x1,some (.str kd),some (.int r),x4,x5] S3 = .ok (.bl ρ) S3:=by
     subst hO;by_cases r4:r=4
     ·exact⟨true,λx0 x1 x4 x5=>by simp?[r4,V8,i8]⟩
     ·by_cases r6:r=6
      ·refine⟨decide (kd="bat" \/ kd="no"),λx0 x1 x4 x5=>?_⟩
       simp?[r4,r6,V8,i8,D_,bF,zaA,zaL,zaE]
      ·exact⟨false,λx0 x1 x4 x5=>by simp?[r4,r6,V8,i8]⟩
    obtain⟨ρ,hR⟩:=hR;have aoa:∀(ρ:Bool),(∀x0 x1 x4 x5,O [x0,x1,some (.str kd),some (.int r),x4,x5] S3 = .ok (.bl ρ) S3)->∃(c:Bool) (S':Cs),Dk S S' d (k+5)/\(ao (bh 5 O) (aD (cL (af (mC (.str "ball")) (af (aa 2) (af (aa 3) (af (i8 (aa 5) (ai gGt (dM 2 bM (af (aa 0) (af (mC (.int 4)) aj))) (mC (.int 0)))) (af (mC (.str "")) (af (mC (.str "")) (af (mC (.str "")) aj)))))))))) [some (.hd d),some (.ls [.str f,.str o]),some (.str kd),some (.int r),some (.int a3),none] S3 = .rt (B.t ⟨kd,r,c,"","",""⟩) S':=λρ hR=>by
     unfold B.t;cases ρ with
     |true=>exact⟨decide (0<a4),S4,(Vp.tr D4).mono (by omega),by simp?[hR,i8,e4,gGt,K9]⟩
     |false=>exact⟨false,S3,Vp.mono (by omega),by simp?[hR,i8]⟩
    obtain⟨c,S',Dx,hx⟩:=aoa ρ hR;refine⟨⟨kd,r,c,"","",""⟩,S',?_,Dx,hkd⟩
    generalize hK:ao (bh 5 O) _=K at *
    by_cases q3:a3=1
    ·have k1:¬ kd="bat" := λz=>q1 ⟨q3,z⟩
     have k2:¬ kd="wide" := λz=>q2 ⟨q3,z⟩
     subst q3;simp?[k1,k2,hx]
    ·simp?[q0,q3,hx]
section
variable {S:Cs}{m:M}{y:Ly}{d k n dd:Nat}
theorem Dk.mat (h:e_ S m y)(D:Dk S S' d k)(hd:d∉fp y):e_ S' m y:=h.only D.on λj hj q=>by rw[zaS] at q;subst q;exact hd hj
theorem Ge (h:e_ S m y)(D:Dr m dd n)(hD:cH S d k)(hk:k<600000)(hd:d∉fp y):∃(e:gY) (S':Cs),Ik [.hd d,.hd y.a] S = .ok e.t S'/\Dk S S' d (k+5)/\EK e:=by
 have hpl:=zv h D.z;have ha:=h.a;obtain⟨a1,S1,l1,m1,e1,D1⟩:=eE hD (by omega) (many:=4) (by decide) (by decide)
 unfold mF at ha;unfold Ik;by_cases q1:a1=0
 ·refine⟨.ia,S1,?_,D1.mono (by omega),trivial⟩
  generalize cT m.t0 m.t1 m.p0 m.p1=sT at *
  simp?[fx,ha,hpl,e1,q1,gY.t]
 ·obtain⟨a2,S2,l2,m2,e2,D2⟩:=eE D1.gZ (by omega) (many:=2) (by decide) (by decide)
  have D02:=D1.tr D2;have h2:=D02.mat h hd;have ht:=aeZ h2 D.z D.hn;have QW:=h2.a;unfold mF at QW;generalize hI:cy (mB (ai (bY true) (aR "Match" "turn" 1 zj (aa 1) aj) (mC (.str "")))) _ _=IF
  have key:∃j:Int,(j=0\/j=1)/\IF [some (.hd d),some (.hd y.a),some (cT m.t0 m.t1 m.p0 m.p1),some (.int a2),none,none,none] S2 = .nx [some (.hd d),some (.hd y.a),some (cT m.t0 m.t1 m.p0 m.p1),some (.int j),none,none,none] S2:=by
   subst hI;by_cases q:IE m=""
   ·exact⟨a2,by omega,by simp?[fx,QW,ht,q]⟩
   ·by_cases q2:IE m=m.t1
    ·refine⟨1,.inr rfl,?_⟩
     rw[q2] at ht q;unfold cT;simp?[fx,QW,ht,q]
    ·refine⟨0,.inl rfl,?_⟩
     unfold cT;simp?[fx,QW,ht,q,q2]
  obtain⟨j,j01,hIF⟩:=key;have s1:=@jv m j j01
  have s2:=@jv m (1 - j) (by omega)
  have p1:=qt D j;have p2:=qt D (1 - j)
  have d2:=D.d2;have d11:=D.d11;generalize mK m j=tj at *
  generalize mK m (1 - j)=tk at *
  generalize iG m j=A at *
  generalize iG m (1 - j)=B at *
  obtain⟨a3,S3,l3,m3,e3,D3⟩:=eE D02.gZ (by omega) (many:=(A.length:Int)) (by omega) (by omega)
  obtain⟨a4,S4,l4,m4,e4,D4⟩:=eE D3.gZ (by omega) (many:=(B.length:Int)) (by omega) (by omega)
  obtain⟨x1,_,f1⟩:=iU (l:=A) (i:=a3) l3 m3
  obtain⟨x2,_,f2⟩:=Vl (l:=A) (n:=a3+1) (m:=(A.length:Int)) rfl (by omega)
  obtain⟨x3,_,f3⟩:=iU (l:=B) (i:=a4) l4 m4
  have z1:(A.length<=sizeLine)=True:=bO (by omega)
  have z2:(B.length<=sizeLine)=True:=bO (by omega)
  have z3:(0<(A.length:Int))=True:=eq_true (by omega)
  have z4:((A.length:Int)<1073741824)=True:=eq_true (by omega)
  refine⟨.c9 tj x1 x2 x3,S4,?_,((D02.tr D3).tr D4).mono (by omega),trivial⟩
  unfold cT at *
  simp?[fx,ha,hpl,e1,q1,e2,hIF,s1,s2,e3,e4,f1,f2,f3,z1,z2,z3,z4,zad,gY.t]
end
noncomputable def Kq:Str:= "abcdefghij"
theorem Qv:(Kq.cps.toList.length:Int)=10:=by decide +kernel
theorem Vq (h0:0<=i)(h1:i<10):∃c,jK Kq.cps.toList i=some c:=by
 obtain⟨c,_,e⟩:=Gb (l:=Kq.cps.toList) (i:=i) h0 (by rw[Qv];exact h1)
 exact⟨c,e⟩
section
variable {S:Cs}{m:M}{y:Ly}{d k n dd:Nat}
theorem Qw (h:e_ S m y)(D:Dr m dd n)(hD:cH S d k)(hk:k<500000)(hd:d∉fp y):∃(e:gY) (S':Cs),Dq [.hd d,.hd y.a] S = .ok e.t S'/\Dk S S' d (k+9)/\EK e:=by
 have qy:=Ve h D.z D.hn;have hpl:=zv h D.z;have ha:=h.a;unfold mF at ha;cases hg:gW m with
 |none =>
  obtain⟨e,S',e1,D1,hE⟩:=Ge h D hD (by omega) hd
  refine⟨e,S',?_,D1.mono (by omega),hE⟩
  have hs:rq m = .bz:=by unfold rq;rw[hg]
  rw[hs] at qy;unfold Dq;generalize e.t=et at *
  simp?[fx,ha,qy,e1]
 |some x =>
  obtain⟨j,j01,hj⟩:∃j:Int,(j=0\/j=1)/\(if mK m x.bW=m.t1 then (1:Int) else 0)=j:=⟨_,by split<;>simp,rfl⟩
  have s1:=@jv m j j01
  have s2:=@jv m (1 - j) (by omega)
  have p1:=qt D j;have p2:=qt D (1 - j)
  have d2:=D.d2;have d11:=D.d11;have dp0:=D.p0;have z0:(m.p0.length<=sizeLine)=True:=bO (by omega)
  have s3:=λ(v:Int) (hv:v=0\/v=1)=>@jv m v hv
  have p3:=λ(v:Int)=>qt D v
  have hs:∃r0 r1 r2 r3,rq m = .tp [.str (mK m x.bW),.str x.o6,.str x.wR,.str x.wD,r0,r1,r2,r3]:=by
   unfold rq;rw[hg];exact⟨_,_,_,_,rfl⟩
  obtain⟨r0,r1,r2,r3,hs⟩:=hs;rw[hs] at qy;clear hs
  have hgt:mE [.bl (decide (mK m x.bW=m.t1))] S = .ok (.int j) S:=by
   rw[<-hj];by_cases q:mK m x.bW=m.t1
   ·rw[decide_eq_true q,if_pos q];rfl
   ·rw[decide_eq_false q,if_neg q];rfl
  generalize mK m x.bW=ts at *
  generalize mK m j=tj at *
  generalize mK m (1 - j)=tk at *
  generalize iG m j=A at *
  generalize iG m (1 - j)=B at *
  have z1:(A.length<=sizeLine)=True:=bO (by omega)
  unfold cT at hpl;obtain⟨PL,hPL⟩:∃PL,PL=[Tr.tp [.str m.t0,.ls (m.p0.map .str)],Tr.tp [.str m.t1,.ls (m.p1.map .str)]]:=⟨_,rfl⟩
  have i1:jK PL 1=some (.tp [.str m.t1,.ls (m.p1.map .str)]):=by rw[hPL];rfl
  have i0:jK PL 0=some (.tp [.str m.t0,.ls (m.p0.map .str)]):=by rw[hPL];rfl
  rw[<-hPL] at hpl s1 s2;simp only[<-hPL] at s3;unfold Dq;simp?[fx,ha,qy,hpl,i1,↓hgt];by_cases q1:x.o6="" \/ x.wR=""
  ·obtain⟨a3,S3,l3,m3,e3,D3⟩:=eE hD (by omega) (many:=(A.length:Int)) (by omega) (by omega)
   obtain⟨x1,_,f1⟩:=iU (l:=A) (i:=a3) l3 m3
   refine⟨.mJ x1,S3,?_,D3.mono (by omega),trivial⟩
   by_cases q2:x.o6=""
   ·simp?[fx,q2,s1,e3,f1,z1,zad,gY.t]
   ·have q3:=q1.resolve_left q2
    simp?[fx,q2,q3,s1,e3,f1,z1,zad,gY.t]
  ·have q2:¬ x.o6="" := λz=>q1 (.inl z)
   have q3:¬ x.wR="" := λz=>q1 (.inr z)
   by_cases q4:x.wD=""
   ·obtain⟨a3,S3,l3,m3,e3,D3⟩:=eE hD (by omega) (many:=(A.length:Int)) (by omega) (by omega)
    obtain⟨x1,_,f1⟩:=iU (l:=B) (i:=a3) l3 (by omega)
    refine⟨.qh x1,S3,?_,D3.mono (by omega),trivial⟩
    simp?[fx,q2,q3,q4,s1,s2,e3,f1,z1,zad,gY.t]
   ·obtain⟨a3,S3,l3,m3,e3,D3⟩:=eE hD (by omega) (many:=24) (by decide) (by decide)
    simp?[fx,q2,q3,q4,e3];by_cases w0:a3=0
    ·obtain⟨a4,S4,l4,m4,e4,D4⟩:=eE D3.gZ (by omega) (many:=2) (by decide) (by decide)
     obtain⟨x1,f1⟩:∃x1,jK [Tr.str ts,.str x.o6,.str x.wR,.str x.wD,r0,r1,r2,r3] (1+a4)=some (.str x1):=by
      rcases (show a4=0\/a4=1 by omega) with rfl|rfl
      ·exact⟨_,rfl⟩
      ·exact⟨_,rfl⟩
     refine⟨.qj x1,S4,?_,(D3.tr D4).mono (by omega),trivial⟩
     simp?[fx,w0,e4,f1,gY.t]
    ·by_cases w1:a3=1
     ·obtain⟨a4,S4,l4,m4,e4,D4⟩:=eE D3.gZ (by omega) (many:=2) (by decide) (by decide)
      obtain⟨a5,S5,l5,m5,e5,D5⟩:=eE D4.gZ (by omega) (many:=(m.p0.length:Int)) (by omega) (by omega)
      obtain⟨a6,S6,l6,m6,e6,D6⟩:=eE D5.gZ (by omega) (many:=10) (by decide) (by decide)
      have s4:=s3 a4 (by omega)
      obtain⟨x1,_,f1⟩:=iU (l:=iG m a4) (i:=a5) l5 (by rw[p3];omega)
      obtain⟨c,f2⟩:=Vq l6 m6;have z2:(Kq.length<=sizeLine)=True:=bO (by decide +kernel)
      have z3:((Str.ofString "wx").length+1<=sizeLine)=True:=bO (by decide +kernel)
      refine⟨.swap x1 (Str.ofString "wx"++⟨#[c]⟩),S6,?_,(((D3.tr D4).tr D5).tr D6).mono (by omega),trivial⟩
      rw[show Str.ofString "abcdefghij"=Kq from rfl];generalize Kq=L at *
      simp?[fx,w1,e4,e5,e6,s4,i0,f1,f2,z0,z2,z3,A1,zad,gY.t]
     ·by_cases w2:a3=2
      ·obtain⟨a4,S4,l4,m4,e4,D4⟩:=eE D3.gZ (by omega) (many:=3) (by decide) (by decide)
       by_cases w3:a4=0
       ·refine⟨.fV,S4,?_,(D3.tr D4).mono (by omega),trivial⟩
        simp?[fx,w2,w3,e4,gY.t]
       ·obtain⟨b,S5,e5,D5,hb⟩:=IJ D4.gZ (by omega) x.o6 x.wR
        refine⟨.mH b,S5,?_,((D3.tr D4).tr D5).mono (by omega),hb⟩
        show _=R.ok b.t S5
        generalize b.t=bt at *
        simp?[fx,w2,w3,e4,e5]
      ·obtain⟨b,S5,e5,D5,hb⟩:=IJ D3.gZ (by omega) x.o6 x.wR
       refine⟨.mH b,S5,?_,(D3.tr D5).mono (by omega),hb⟩
       show _=R.ok b.t S5
       generalize b.t=bt at *
       simp?[fx,w0,w1,w2,e5]
end
noncomputable def Rk (r:fB):Prop:=r.e.k∈wI/\(r.q="" ↔ r.e.w="")
theorem Vr {x:I}{b:B}(h:x.je b=none):x.Ea b="" ↔ b.w="" := by
 unfold I.je at h;split at h
 ·cases h
 ·rename_i hg
  have hf:¬ x.o6="" := λz=>hg (by unfold I.QZ I.dD;exact decide_eq_true (.inl z.symm))
  have ho:¬ x.wR="" := λz=>hg (by unfold I.QZ I.dD;exact decide_eq_true (.inr z.symm))
  split at h
  ·cases h
  ·split at h
   ·cases h
   ·split at h
    ·cases h
    ·rename_i q
     unfold I.Ea;by_cases hr:b.w="run"
     ·rw[if_pos hr]
      have hs:x.dD b.Lc=true:=by
       cases hq:x.dD b.Lc
       ·exact absurd ⟨hr,hq⟩ q
       ·rfl
      have hs:=of_decide_eq_true hs;refine⟨λz=>?_,λz=>?_⟩
      ·rcases hs with k|k
       ·exact absurd (k.symm.trans z) hf
       ·exact absurd (k.symm.trans z) ho
      ·rw[hr] at z;exact absurd z (by decide +kernel)
     ·rw[if_neg hr]
      by_cases he:b.w=""
      ·rw[if_pos he];exact⟨λ_=>he,λ_=>rfl⟩
      ·rw[if_neg he];exact⟨λz=>absurd z hf,λz=>absurd z he⟩
theorem Qx {m:M}{rs:List fB}{e:gY}(hl:m.fN=rs.map fB.t)(hk:∀r∈rs,Rk r)(hE:EK e)(hr:rA m e=none):∃Qy:List fB,(qp m e).fN=Qy.map fB.t/\∀r∈Qy,Rk r:=by
 unfold qp;rw[IG];unfold rA at hr;split at hr
 ·cases hr
 have Ba:∀e,(∀x,(mO m x e).fN=m.fN)->(match gW m with|some x=>mO m x e|none=>m).fN=m.fN:=λe q=>by
  cases gW m with
  |none=>rfl
  |some x=>exact q x
 cases e with
 |c9 t f o b=>exact⟨rs,hl,hk⟩
 |swap a b=>exact⟨rs,by rw[<-hl];exact (Ze m a b).2.2,hk⟩
 |ia=>exact⟨rs,hl,hk⟩
 |lZ=>exact⟨rs,by rw[<-hl];exact (Zf m).2.2,hk⟩
 |mJ n=>exact⟨rs,by rw[<-hl];exact Ba _ λ_=>rfl,hk⟩
 |qh n=>exact⟨rs,by rw[<-hl];exact Ba _ λ_=>rfl,hk⟩
 |qj n=>exact⟨rs,by rw[<-hl];exact Ba _ λ_=>rfl,hk⟩
 |fV=>exact⟨rs,by rw[<-hl];exact Ba _ λ_=>rfl,hk⟩
 |mH b =>
  have hr:d_ m (.mH b)=none:=hr
  unfold d_ at hr;show ∃Qy:List fB,(match gW m with|some x=>mO m x (.mH b)|none=>m).fN=Qy.map fB.t/\∀r∈Qy,Rk r
  cases hg:gW m with
  |none=>rw[hg] at hr;cases hr
  |some x =>
   rw[hg] at hr;have hr:x.je b=none:=hr
   refine⟨rs++[⟨(m.pl.length:Int) - 1,x.ov,x.ba,x.o6,x.wR,x.wD,b,x.Ea b⟩],?_,λr xC=>?_⟩
   ·show m.fN++[iS m x b]=_
    rw[hl,zaD];rfl
   ·rcases zbC.mp xC with q|q
    ·exact hk r q
    ·rw[zaS] at q
     subst q;exact⟨hE,Vr hr⟩
theorem cH.on (h:cH S d k)(o:bI F S S')(hd:d∉F):cH S' d k:=by
 obtain⟨cs,a,l,n,b,h1,h2⟩:=h;exact⟨cs,a,l,n,b,o.at h1 hd,h2⟩
structure Pl (S:Cs) (d k dd N a:Nat) (m:M) (y:Ly) (rs:List fB):Prop where
 gZ:e_ S m y
 a:y.a=a
 dr:cH S d k
 nd:d∉fp y
 D:Dr m dd N
 fN:m.fN=rs.map fB.t
 rk:∀r∈rs,Rk r
theorem Qz {S:Cs}{d k:Nat}(hD:cH S d k)(hk:k<1000):∃(u:U) (S':Cs) (dd N a:Nat) (m:M) (y:Ly) (rs:List fB),Im [.hd d] S = .ok (.ls [u.t,.hd a]) S'/\Pl S' d 10000 dd N a m y rs:=by
 obtain⟨u,S1,e1,D1,u2,u11⟩:=Qt hD (by omega)
 obtain⟨sd,U8⟩:=zbh (by omega:0<=u.d)
 have hd1:=D1.gZ.lt;obtain⟨t0,t1,p0,p1,S2,e2,D2,l0,l1⟩:=Qu D1.gZ (by omega) sd (by omega) (by omega)
 have D02:=D1.tr D2;have hd2:=D02.gZ.lt;have e3:=aeV u t0 t1 p0 p1 (by omega) (by omega) S2
 have hM:=Vc S2 u t0 t1 p0 p1;have hZ:=Vd u t0 t1 p0 p1 (by omega) (by omega)
 have Dr0:Dr (iZ u t0 t1 p0 p1) sd 22:=⟨hZ,by decide,l0,l1,by omega,by omega,[],rfl⟩
 have lg0:(iZ u t0 t1 p0 p1).fN=([]:List fB).map fB.t:=rfl
 have D3:cH (zq S2 (iZ u t0 t1 p0 p1)) d (k+12+30):=D02.gZ.rJ _
 have nd0:d∉fp (wH S2.length):=λq=>by simp[fp,wH] at q;omega
 generalize iZ u t0 t1 p0 p1=m0 at *
 generalize zq S2 m0=S3 at *
 obtain⟨a4,S4,l4,m4,e4,D4⟩:=eE D3 (by omega) (many:=4) (by decide) (by decide)
 obtain⟨N,hN,eN⟩:∃N:Nat,N<=90/\jK [Tr.int 12,.int 30,.int 60,.int 90] a4=some (.int (N:Int)):=by
  rcases (show a4=0\/a4=1\/a4=2\/a4=3 by omega) with rfl|rfl|rfl|rfl
  ·exact⟨12,by decide,rfl⟩
  ·exact⟨30,by decide,rfl⟩
  ·exact⟨60,by decide,rfl⟩
  ·exact⟨90,by decide,rfl⟩
 have P0:Pl S4 d (k+43+9 * 0) sd (22+0) S2.length m0 (wH S2.length) []:=⟨D4.mat hM nd0,rfl,D4.gZ.mono (by omega),nd0,Dr0,lg0,λr hr=>by cases hr⟩
 have hut:u.t = .tp [.int u.o,.int u.v,.int u.s,.int u.w,.int u.n,.int u.d,.int u.i,.int u.f]:=rfl
 have hr:(-4611686018427387904<=(N:Int)/\(N:Int)<4611686018427387904)=True:=eq_true (by omega)
 rw[hut,U8] at e1 e3;rw[<-U8] at e2;rw[U8] at e2;unfold Im;obtain⟨uT,QA⟩:∃uT,uT=Tr.tp [.int u.o,.int u.v,.int u.s,.int u.w,.int u.n,.int (sd:Int),.int u.i,.int u.f]:=⟨_,rfl⟩
 have i5:∀S,aL uT (.int 5) S = .ok (.int (sd:Int)) S:=λS=>by rw[QA];rfl
 rw[<-QA] at e1 e3;generalize cT t0 t1 p0 p1=sT at *
 simp?[fx,e1,↓i5,e2,e3,e4,eN,hr,zbn];generalize hZ:iN _ _ _ _ _ _=Z
 obtain⟨qz,S',⟨⟨v,rfl⟩,m,y,rs,P⟩,rfl⟩:=gy hZ (λi τ S'=>(∃v,τ=[some (.hd d),some uT,some (.hd S2.length),v])/\∃m y rs,Pl S' d (k+43+9 * i) sd (22+i) S2.length m y rs) (λ_ _ _ _=>trivial) ⟨⟨_,rfl⟩,m0,_,[],P0⟩ (by
  rintro i t τ S5 ht ⟨⟨v,rfl⟩,m,y,rs,P⟩
  obtain⟨nL,rfl⟩:=uC ht;obtain⟨e,S6,f1,D6,hE⟩:=Qw P.gZ P.D P.dr (by omega) P.nd
  have hM6:=D6.mat P.gZ P.nd;have ha:=P.gZ.a;unfold mF at ha;rw[P.a] at f1 ha;have hd6:=D6.gZ.lt;cases hr:rA m e with
  |none =>
   obtain⟨S7,y7,k1,T,z7⟩:=Vj hM6 P.D.z (by omega) e hr
   obtain⟨Qy,hl',hk'⟩:=Qx P.fN P.rk hE hr;rw[P.a] at k1;refine⟨[some (.hd d),some uT,some (.hd S2.length),some (.int (0+(i:Int)))],S7,.inl ?_,⟨_,rfl⟩,_,y7,Qy,T.gZ,T.a.trans P.a,(D6.gZ.on T.on P.nd).mono (by omega),λq=>(T.fp _ q).elim P.nd λq=>by omega,P.D.an0 e z7 (by omega),hl',hk'⟩
   generalize e.t=et at *
   simp?[fx,f1,ha,k1]
  |some w =>
   obtain⟨S0,⟨G,e0⟩,k1⟩:=Vk hM6 P.D.z (by omega) e w hr
   have on:bI [] S6 (S0++[.xm "NotLet" [("rule",.str w),("number",.int 0)]]):=by
    rw[e0,zbB];exact bI.rJ
   rw[P.a] at k1;refine⟨[some (.hd d),some uT,some (.hd S2.length),some (.int (0+(i:Int)))],_,.inr ?_,⟨_,rfl⟩,m,y,rs,hM6.only on (by simp),P.a,(D6.gZ.on on (by simp)).mono (by omega),P.nd,P.D.mono (by omega) (by omega),P.fN,P.rk⟩
   generalize e.t=et at *
   simp?[fx,f1,ha,k1,P9,zaS])
 rw[nq] at P;refine⟨u,S',sd,_,S2.length,m,y,rs,?_,⟨P.gZ,P.a,P.dr.mono (by omega),P.nd,P.D,P.fN,P.rk⟩⟩
 rw[hut,U8,<-QA];simp only[↓bp,bx,simprocAttr]
noncomputable abbrev V4:=Int×Int×Int×Int
noncomputable abbrev Pt:=(Int×Str)×V4
noncomputable def qu (p q:V4):V4:=(p.1+q.1,p.2.1+q.2.1,p.2.2.1+q.2.2.1,p.2.2.2+q.2.2.2)
noncomputable def qA (X:List Pt):List (Int×Str):=X.foldl (λl r=>if r.1∈l then l else l++[r.1]) []
noncomputable def iH (X:List Pt)(k:Int×Str):List Pt:=X.filter λr=>decide (r.1=k)
noncomputable def jf (Y:List Pt):V4:=Y.foldl (λs r=>qu s r.2) (0,0,0,0)
noncomputable def fG (X:List Pt):List Pt:=(qA X).map λk=>(k,jf (iH X k))
theorem nF (X:List Pt)(r:Pt):qA (X++[r])=if r.1∈qA X then qA X else qA X++[r.1]:=by unfold qA;rw[zcC];rfl
theorem kN (X:List Pt)(r:Pt)(k:Int×Str):iH (X++[r]) k=if r.1=k then iH X k++[r] else iH X k:=by
 unfold iH;rw[List.filter_append,zbF];by_cases h:r.1=k
 ·rw[if_pos (decide_eq_true h),if_pos h];rfl
 ·rw[if_neg (by simpa using h),if_neg h];simp
theorem zw (Y:List Pt)(r:Pt):jf (Y++[r])=qu (jf Y) r.2:=by unfold jf;rw[zcC];rfl
theorem iw (X:List Pt):(∀r∈X,r.1∈qA X)/\(qA X).Nodup/\(qA X).length<=X.length:=by
 have key:∀(Y:List Pt),(∀r∈Y.reverse,r.1∈qA Y.reverse)/\(qA Y.reverse).Nodup/\(qA Y.reverse).length<=Y.reverse.length:=λY=>by
  induction Y with
  |nil=>exact⟨λr hr=>by simp at hr,List.nodup_nil,zaf _⟩
  |cons r Y ih =>
   rw[List.reverse_cons,nF];obtain⟨h1,h2,h3⟩:=ih;split
   ·rename_i q
    refine⟨λs hs=>?_,h2,by simp at h3 ⊢;omega⟩
    rcases zbC.mp hs with k|k
    ·exact h1 s k
    ·rw[zaS] at k;subst k;exact q
   ·rename_i q
    refine⟨λs hs=>?_,?_,by simp at h3 ⊢;omega⟩
    ·rcases zbC.mp hs with k|k
     ·exact zby _ (h1 s k)
     ·rw[zaS] at k;subst k;simp
    ·rw[zcl]
     exact⟨h2,by simp,λa ha b hb e=>q (by rw[zaS] at hb;rw[<-hb,<-e];exact ha)⟩
 have:=key X.reverse
 rw[zey] at this;exact this
theorem QB (h:k∉qA X):iH X k=[]:=by
 unfold iH;rw[List.filter_eq_nil_iff];intro r hr q
 have:=of_decide_eq_true q
 exact h (this ▸ (iw X).1 r hr)
theorem ae6 (p:V4):qu (0,0,0,0) p=p:=by unfold qu;simp
theorem ae7 (p:V4):qu p (0,0,0,0)=p:=by unfold qu;simp
noncomputable def o9 (p:V4):Tr:=.tp [.int p.1,.int p.2.1,.int p.2.2.1,.int p.2.2.2]
noncomputable def kP (k:Int×Str):List dh:=[.inl k.1,.inr k.2]
noncomputable def dT (p:Pt):List dh×Tr:=(kP p.1,o9 p.2)
noncomputable def j6 (k:Int×Str):Tr:=.tp [.int k.1,.str k.2]
noncomputable def Kr (p:Pt):Tr:=.tp [.int p.1.1,.str p.1.2,.int p.2.1,.int p.2.2.1,.int p.2.2.2.1,.int p.2.2.2.2]
theorem wJ (h:kP x=kP y):x=y:=by
 unfold kP at h;injection h with h1 h2
 injection h2 with h2 _
 injection h1 with h1
 injection h2 with h2
 exact Prod.ext h1 h2
theorem DH {l:List (Pt)}(nd:(l.map (·.1)).Nodup){p:Pt}(hp:p∈l):aH (kP p.1) (l.map dT)=some (o9 p.2):=by
 induction l with
 |nil=>cases hp
 |cons a r ih =>
  rw[rW,zbD] at nd;rw[rW];show (if kP a.1=kP p.1 then some (o9 a.2) else aH (kP p.1) (r.map dT))=_
  rcases zap.mp hp with rfl|hp
  ·rw[if_pos rfl]
  ·rw[if_neg λz=>nd.1 (zbw.mpr ⟨p,hp,(wJ z).symm⟩)]
   exact ih nd.2 hp
theorem QC {l:List (Pt)}{k:Int×Str}(hn:k∉l.map (·.1)):aH (kP k) (l.map dT)=none:=by
 induction l with
 |nil=>rfl
 |cons a r ih =>
  rw[rW,zap] at hn;rw[rW];show (if kP a.1=kP k then some (o9 a.2) else aH (kP k) (r.map dT))=_
  rw[if_neg λz=>hn (.inl (wJ z).symm)]
  exact ih λq=>hn (.inr q)
theorem wK (X:List Pt):(fG X).map (·.1)=qA X:=by
 unfold fG;rw[zaK];exact List.map_id _
theorem Vs (X:List Pt)(r:Pt):d8 ((fG X).map dT) (kP (r.1)) (o9 (if r.1∈qA X then qu (jf (iH X (r.1))) r.2 else r.2))=(fG (X++[r])).map dT:=by
 have nd:=(iw X).2.1
 unfold d8;by_cases h:r.1∈qA X
 ·have e:((fG X).map dT).any (λkv=>decide (kv.1=kP (r.1)))=true:=by
   rw[zbW];exact⟨dT (r.1,jf (iH X (r.1))),zbw.mpr ⟨_,zbw.mpr ⟨r.1,h,rfl⟩,rfl⟩,decide_eq_true rfl⟩
  rw[if_pos e,if_pos h];unfold fG;rw[nF,if_pos h];rw[zaK,zaK,zaK];apply zbR
  intro k hk;show (if kP k=kP (r.1) then (kP k,o9 (qu (jf (iH X (r.1))) r.2)) else (kP k,o9 (jf (iH X k))))=(kP k,o9 (jf (iH (X++[r]) k)))
  rw[kN];by_cases q:r.1=k
  ·subst q
   rw[if_pos rfl,if_pos rfl,zw]
  ·rw[if_neg λz=>q (wJ z).symm,if_neg q]
 ·have e:¬ ((fG X).map dT).any (λkv=>decide (kv.1=kP (r.1)))=true:=λz=>by
   rw[zbW] at z;obtain⟨x,hx,q⟩:=z;obtain⟨p,hp,rfl⟩:=zbw.mp hx;obtain⟨k,hk,rfl⟩:=zbw.mp hp
   have:=wJ (of_decide_eq_true q)
   exact h (this ▸ hk)
  rw[if_neg e,if_neg h];unfold fG;rw[nF,if_neg h,zaD,zaD];congr 1
  ·rw[zaK,zaK]
   apply zbR
   intro k hk;show (kP k,o9 (jf (iH X k)))=(kP k,o9 (jf (iH (X++[r]) k)))
   rw[kN,if_neg λq:r.1=k=>h (by rw[q];exact hk)]
  ·show [(kP (r.1),o9 r.2)]=[(kP (r.1),o9 (jf (iH (X++[r]) (r.1))))]
   rw[kN,if_pos rfl,QB h,Hv];unfold jf;rw[zbf,List.foldl_nil,ae6]
theorem QD {κ:Type}[DecidableEq κ](l:List (κ × Tr))(k k' : κ)(t:Tr):aH k' (d8 l k t)=if k=k' then some t else aH k' l:=by
 have aa7:∀l:List (κ × Tr),aH k' (l.map (λkv=>if kv.1=k then (kv.1,t) else kv))=if k=k' then (if (l.any λkv=>decide (kv.1=k))=true then some t else aH k' l) else aH k' l:=λl=>by
  induction l with
  |nil=>simp[aH]
  |cons p r ih =>
   obtain⟨a,w⟩:=p;by_cases ha:a=k
   ·subst ha
    by_cases hn:a=k'
    ·simp[aH,hn]
    ·simp[aH,hn,ih]
   ·by_cases hn:a=k'
    ·subst hn
     have:¬ k=a:=λq=>ha q.symm
     simp[aH,ha,this]
    ·have e:((((a,w)::r:List (κ × Tr)).any λkv=>decide (kv.1=k))=true)=((r.any λkv=>decide (kv.1=k))=true):=by
      show ((decide (a=k) || r.any λkv=>decide (kv.1=k))=true)=_
      rw[decide_eq_false ha,Bool.false_or]
     rw[rW,if_neg ha];simp only[e,aH,if_neg hn,ih]
 have hap:∀l:List (κ × Tr),(l.any λkv=>decide (kv.1=k))=false->aH k' (l++[(k,t)])=if k=k' then some t else aH k' l:=λl=>by
  induction l with
  |nil=>intro _;simp[aH]
  |cons p r ih =>
   obtain⟨a,w⟩:=p;intro h;have h:=Bool.or_eq_false_iff.mp (show (decide (a=k) || r.any λkv=>decide (kv.1=k))=false from h)
   have ha:=of_decide_eq_false h.1;by_cases hn:a=k'
   ·subst hn
    have:¬ k=a:=λq=>ha q.symm
    simp[aH,this]
   ·simp[aH,hn,ih h.2]
 unfold d8;split
 ·rename_i q
  rw[aa7,if_pos q]
 ·rename_i q
  exact hap l (Bool.eq_false_iff.mpr q)
theorem Vt {κ:Type}[DecidableEq κ](l:List (κ × Tr))(k:κ)(t:Tr):(d8 l k t).length<=l.length+1:=by unfold d8;split<;>simp
noncomputable def b2i (b:Bool):Int:=if b=true then 1 else 0
noncomputable def nG (b:B)(n:Int):Bool:=decide (b.k="bat" \/ b.k="no") && (b.rp && decide (b.r=n))
noncomputable def Ld (u:U)(b:B):V4:=((Dw u b.k b.r).wU,b2i (!decide (b.k="wide")),b2i (nG b 4),b2i (nG b 6))
noncomputable def gf (u:U)(X:List fB):List Pt:=X.flatMap λr=>[((r.a,r.f),Ld u r.e),((r.a,r.o),(0,0,0,0))]
theorem wL (u:U)(X:List fB)(r:fB):gf u (X++[r])=gf u X++[((r.a,r.f),Ld u r.e)]++[((r.a,r.o),(0,0,0,0))]:=by unfold gf;simp
theorem qv (u:U)(X:List fB):(gf u X).length=2 * X.length:=by
 induction X with
 |nil=>rfl
 |cons r X ih =>
  have e:gf u (r::X)=[((r.a,r.f),Ld u r.e),((r.a,r.o),(0,0,0,0))]++gf u X:=by unfold gf;rw[zcZ]
  rw[e,zak,ih,zar];simp
  omega
noncomputable def wy (X:List fB)(k:Int×Str):Str:=X.foldl (λs r=>if (r.a,r.q)=k then r.e.w else s) ""
theorem s_ (X:List fB)(r:fB)(k:Int×Str):wy (X++[r]) k=if (r.a,r.q)=k then r.e.w else wy X k:=by unfold wy;rw[zcC];rfl
theorem DI {α:Type}{P:List α -> Prop}(h0:P [])(h1:∀l a,P l->P (l++[a]))(l:List α):P l:=by
 have:∀l:List α,P l.reverse:=λl=>by
  induction l with
  |nil=>exact h0
  |cons a l ih=>rw[List.reverse_cons];exact h1 _ _ ih
 rw[<-zey l];exact this _
theorem ae8 (hk:∀r∈X,Rk r)(a:Int):wy X (a,"")="" := by
 refine DI (P:=λX=>(∀r∈X,Rk r)->wy X (a,"")="") (λ_=>rfl) (λX r ih hk=>?_) X hk
 rw[s_];split
 ·rename_i q
  have:=(hk r (by simp)).2
  exact this.mp (congrArg (·.2) q)
 ·exact ih λr hr=>hk r (zby _ hr)
noncomputable def jw (u:U)(Y:List fB)(n:Str):V4×Str:=Y.foldl (λs r=>(if r.f=n then qu s.1 (Ld u r.e) else s.1,if r.q=n then r.e.w else s.2)) ((0,0,0,0),"")
theorem DJ (u:U)(Y:List fB)(r:fB)(n:Str):jw u (Y++[r]) n=(if r.f=n then qu (jw u Y n).1 (Ld u r.e) else (jw u Y n).1,if r.q=n then r.e.w else (jw u Y n).2):=by unfold jw;rw[zcC];rfl
noncomputable def mJ (X:List fB)(a:Int):List fB:=X.filter λr=>decide (r.a=a)
theorem ae9 (u:U)(X:List fB)(a:Int)(n:Str):jw u (mJ X a) n=(jf (iH (gf u X) (a,n)),wy X (a,n)):=by
 refine DI (P:=λX=>jw u (mJ X a) n=(jf (iH (gf u X) (a,n)),wy X (a,n))) rfl (λX r ih=>?_) X
 have ei:mJ (X++[r]) a=if r.a=a then mJ X a++[r] else mJ X a:=by
  unfold mJ;rw[List.filter_append,zbF];by_cases h:r.a=a
  ·rw[if_pos (decide_eq_true h),if_pos h];rfl
  ·rw[if_neg (by simpa using h),if_neg h];simp
 rw[ei,wL,kN,kN,s_];by_cases h:r.a=a
 ·subst h
  rw[if_pos rfl,DJ,ih];simp only[Prod.mk.injEq,true_and];by_cases h1:r.f=n<;>by_cases h2:r.o=n<;>simp only[h1,h2,if_true,if_false,zw,ae7,and_self]
 ·rw[if_neg h,ih]
  simp[h]
theorem cc0:(S++[x,y])[S.length]? = some x:=by simp
theorem cc1:(S++[x,y])[S.length+1]? = some y:=by simp
theorem cs0:(S++[x,y]).set S.length z=S++[z,y]:=by simp
theorem cs1:(S++[x,y]).set (S.length+1) z=S++[x,z]:=by rw[zcf _ _ (by omega),show S.length+1 - S.length=1 by omega];rfl
theorem QE (b:Bool)(S:Cs):mE [.bl b] S = .ok (.int (b2i b)) S:=by cases b<;>rfl
theorem IK (b:B)(n:Int)(S:Cs):Ds [b.t,.int n] S = .ok (.bl (nG b n)) S:=by
 unfold Ds B.t nG;by_cases h:b.k="bat" \/ b.k="no"
 ·cases hr:b.rp
  ·simp?[i8,D_,bF,zaA,zaL,zaE,h,decide_true,zci,zbT]
  ·simp?[i8,D_,bF,zaA,zaL,zaE,h,decide_true,zci]
 ·simp?[i8,D_,bF,zaA,zaL,zaE,h,decide_false,zbT]
theorem Vu (u:U)(b:B)(S:Cs):Iu [u.t,b.t] S = .ok (o9 (Ld u b)) S:=by
 have k1:=PY u b S;unfold B.F2 at k1;unfold Iu o9 Ld;have k2:=IK b 4 S;have k3:=IK b 6 S;generalize u.t=ut at *
 generalize b.t=bt at *
 have k4:=λb S=>QE b S
 simp?[k1,k2,k3,↓k4]
theorem QF (l:List (Int×Int))(hl:l.length<=1000)(S:Cs):Dt [.tp (l.map λp=>.int p.1),.tp (l.map λp=>.int p.2)] S = .ok (.tp (l.map λp=>.int (p.1+p.2))) S:=by
 unfold Dt;have ez:∀(τ:En) (fr:En->Cs->R (List Tr)),rT fr τ S=(fr τ S).az rS:=λ_ _=>rfl
 have ek:∀l m:List Tr,rS [.tp l,.tp m] S = .ok ⟨oW l m,λ_=>True⟩ S:=λ_ _=>rfl
 have et:∀l:List Tr,lB [.ls l] S = .ok (.tp l) S:=λ_=>rfl
 have ew:oW (l.map λp=>Tr.int p.1) (l.map λp=>Tr.int p.2)=l.map λp=>.tp [.int p.1,.int p.2]:=by
  unfold oW;induction l with
  |nil=>rfl
  |cons a r ih=>simp only[rW,zcT,ih (Nat.le_of_succ_le hl)]
 simp?[ez,ek,ew];rw[eX trivial (λτ=>∃v w,τ=[v,w]) (λp:Int×Int=>.tp [.int p.1,.int p.2]) (λp=>.int (p.1+p.2)) (λ_=>true) l _ [] ⟨_,_,rfl⟩ ?_ (by simp;omega)]
 ·rw[Hv,zbS.mpr (λ_ _=>rfl)]
  simp?[↓et]
 ·rintro p hp τ ⟨v,w,rfl⟩
  exact⟨[some (.int p.1),some (.int p.2)],⟨_,_,rfl⟩,rfl,rfl,λ_=>rfl⟩
theorem QG (p q:V4)(S:Cs):Dt [o9 p,o9 q] S = .ok (o9 (qu p q)) S:=
 QF [(p.1,q.1),(p.2.1,q.2.1),(p.2.2.1,q.2.2.1),(p.2.2.2,q.2.2.2)] (by simp) S
theorem tu (k:Int×Str):yz (j6 k)=some (kP k):=rfl
noncomputable def Gf (r:Pt):Tr:=.tp [j6 r.1,o9 r.2]
theorem aj9 {S:Cs}{n:Nat}(X:List Pt)(hn:S[n]? = some (.aM (X.map Gf)))(hl:X.length<=2000):∃c,Iv [.hd n] S = .ok (.ls ((fG X).map Kr)) (S++[c]):=by
 unfold Iv;have DU:=bq hn;have hn':∀c,(S++[c])[n]? = some (.aM (X.map Gf)):=λc=>by rw[zaj DU];exact hn
 have hn0:=hn' (.i7 [])
 simp?[p_,hn0];generalize hZ:iN _ _ _ _ _ _=Z
 obtain⟨qz,S',⟨⟨v2,v3,rfl⟩,rfl⟩,rfl⟩:=gy hZ (λi τ S'=>(∃v2 v3,τ=[some (.hd n),some (.hd S.length),v2,v3])/\S'=S++[.i7 ((fG (X.take i)).map dT)]) (λi τ S' ⟨_,q⟩=>by rw[q];show cu _ n=_;unfold cu;rw[hn']) ⟨⟨_,_,rfl⟩,rfl⟩ (by
  rintro i t τ S' ht ⟨⟨v2,v3,rfl⟩,rfl⟩
  rw[zas] at ht;cases hr:X[i]? with
  |none=>rw[hr] at ht;cases ht
  |some r =>
   rw[hr] at ht;cases ht;have et:X.take (i+1)=X.take i++[r]:=by rw[zcX,hr];rfl
   have hg:(S++[Ce.i7 ((fG (X.take i)).map dT)])[S.length]? = some (.i7 ((fG (X.take i)).map dT)):=dF _ _
   have hp:=Vs (X.take i) r
   rw[<-et] at hp;have hz:((fG (X.take i)).map dT).length<sizeLine:=by
    have h1:=(iw (X.take i)).2.2
    have h2:(2000:Nat)<sizeLine:=by decide +kernel
    unfold fG;rw[zad,zad];rw[zaG] at h1;omega
   have hv:sM (S++[Ce.i7 ((fG (X.take i)).map dT)]) (.hd S.length) (j6 r.1)=some (aH (kP r.1) ((fG (X.take i)).map dT)):=by
    unfold sM;simp only[hg,tu,zbL]
   have gP:∀t,oJ (.hd S.length) (j6 r.1) t (S++[Ce.i7 ((fG (X.take i)).map dT)]) = .ok () (S++[Ce.i7 (d8 ((fG (X.take i)).map dT) (kP r.1) t)]):=λt=>by
    unfold oJ;simp only[hg,tu,if_pos hz];rw[zcf _ _ (zaf _),zeR];rfl
   refine⟨[some (.hd n),some (.hd S.length),some (j6 r.1),some (o9 r.2)],_,.inl ?_,⟨_,_,rfl⟩,rfl⟩
   rw[<-hp];unfold Gf;by_cases hm:r.1∈qA (X.take i)
   ·rw[if_pos hm]
    have g1:aH (kP r.1) ((fG (X.take i)).map dT)=some (o9 (jf (iH (X.take i) r.1))):=DH (p:=(r.1,jf (iH (X.take i) r.1))) (by rw[wK];exact (iw _).2.1) (zbw.mpr ⟨r.1,hm,rfl⟩)
    rw[g1] at hv;have ha:=QG (jf (iH (X.take i) r.1)) r.2 (S++[Ce.i7 ((fG (X.take i)).map dT)])
    have hI:AH false (j6 r.1) (.hd S.length) (S++[Ce.i7 ((fG (X.take i)).map dT)]) = .ok (.bl true) (S++[Ce.i7 ((fG (X.take i)).map dT)]):=by unfold AH;rw[hv];rfl
    have hx:uK (.hd S.length) (j6 r.1) (S++[Ce.i7 ((fG (X.take i)).map dT)]) = .ok (o9 (jf (iH (X.take i) r.1))) (S++[Ce.i7 ((fG (X.take i)).map dT)]):=by unfold uK;rw[hv]
    generalize j6 r.1=kt at *
    generalize o9 (qu (jf (iH (X.take i) r.1)) r.2)=w1 at *
    generalize o9 (jf (iH (X.take i) r.1))=w2 at *
    generalize o9 r.2=w3 at *
    simp?[qW,↓hI,↓hx,ha,gP]
   ·rw[if_neg hm]
    have g1:aH (kP r.1) ((fG (X.take i)).map dT)=none:=QC (by rw[wK];exact hm)
    rw[g1] at hv;have hI:AH false (j6 r.1) (.hd S.length) (S++[Ce.i7 ((fG (X.take i)).map dT)]) = .ok (.bl false) (S++[Ce.i7 ((fG (X.take i)).map dT)]):=by unfold AH;rw[hv];rfl
    generalize j6 r.1=kt at *
    generalize o9 r.2=w3 at *
    simp?[qW,↓hI,gP])
 rw[zad,zbt];have nd:((fG X).map (·.1)).Nodup:=by rw[wK];exact (iw X).2.1
 have tl:(fG X).length<=2000:=by have:=(iw X).2.2;unfold fG;rw[zad];omega
 generalize fG X=T at *
 have q0:(S++[Ce.i7 (T.map dT)])[S.length]? = some (Ce.i7 (T.map dT)):=dF _ _
 have qs:(S++[Ce.i7 (T.map dT)]).set S.length (Ce.sG (T.map dT))=S++[Ce.sG (T.map dT)]:=by
  rw[zcf _ _ (zaf _),zeR];rfl
 have qi:iD (.hd S.length) (S++[Ce.i7 (T.map dT)]) = .ok ⟨T.map λp=>j6 p.1,λ_=>True⟩ (S++[Ce.sG (T.map dT)]):=by
  unfold iD;simp only[q0,qs,zaK];rfl
 have q2:(S++[Ce.sG (T.map dT)])[S.length]? = some (Ce.sG (T.map dT)):=dF _ _
 have qx:∀p∈T,uK (.hd S.length) (j6 p.1) (S++[Ce.sG (T.map dT)]) = .ok (o9 p.2) (S++[Ce.sG (T.map dT)]):=λp hp=>by
  unfold uK sM;simp only[q2,tu,zbL,DH nd hp]
 refine⟨Ce.sG (T.map dT),?_⟩
 simp?[qS,qi];generalize S++[Ce.i7 (T.map dT)]=S1 at *
 generalize BN:S++[Ce.sG (T.map dT)]=S2 at *
 rw[eX trivial (λτ=>∃v,τ=[some (.hd S.length),v]) (λp:Pt=>j6 p.1) Kr (λ_=>true) T _ [] ⟨_,rfl⟩ ?_ (by simp;omega)]
 ·rw[Hv,zbS.mpr (λ_ _=>rfl)]
  simp only[↓bp,bx,simprocAttr]
 ·rintro p hp τ ⟨w,rfl⟩
  refine⟨[some (.hd S.length),some (j6 p.1)],⟨_,rfl⟩,rfl,rfl,λ_=>?_⟩
  have h1:=qx p hp;unfold Kr;unfold j6 o9 at *
  simp?[↓h1]
noncomputable def Wy (D:List (List dh×Tr))(X:List fB):Prop:=D.length<=X.length/\∀k:Int×Str,(aH (kP k) D).getD (.str "") = .str (wy X k)
theorem Wy.no {D:List (List dh×Tr)}{X:List fB}{r:fB}(h:Wy D X)(hk:∀q∈X++[r],Rk q)(hq:r.q=""):Wy D (X++[r]):=by
 refine⟨by have:=h.1;simp;omega,λk=>?_⟩
 rw[h.2,s_];split
 ·rename_i e
  have h1:r.e.w="" := (hk r (by simp)).2.mp hq
  rw[h1,<-e,hq,ae8 λq hq=>hk q (zby _ hq)]
 ·rfl
theorem Wy.yes (h:Wy D X):Wy (d8 D (kP (r.a,r.q)) (.str r.e.w)) (X++[r]):=by
 refine⟨by have:=h.1;have:=Vt D (kP (r.a,r.q)) (.str r.e.w);simp;omega,λk=>?_⟩
 rw[QD,s_];by_cases e:(r.a,r.q)=k
 ·rw[if_pos (by rw[e]),if_pos e];rfl
 ·rw[if_neg λz=>e (wJ z),if_neg e];exact h.2 k
noncomputable def jx (X:List fB)(p:Pt):Tr:=.tp [.int p.1.1,.str p.1.2,.int p.2.1,.int p.2.2.1,.int p.2.2.2.1,.int p.2.2.2.2,.str (wy X p.1)]
theorem Zg {u:U}{X:List fB}(hk:∀r∈X,Rk r)(hl:X.length<=1000)(S:Cs):∃k S',Du [u.t,.ls (X.map fB.t)] S = .ok (.hd k) S'/\S'[k]? = some (.aM ((fG (gf u X)).map (jx X)))/\nu S S'/\S.length<=k:=by
 unfold Du;have hb:=λb S=>Vu u b S
 obtain⟨uT,QA⟩:∃uT,uT=u.t:=⟨_,rfl⟩
 rw[<-QA];simp only[<-QA] at hb;have eS:S++[Ce.aM []]++[Ce.i7 []]=S++[Ce.aM [],Ce.i7 []]:=by simp
 have eL:(S++[Ce.aM []]).length=S.length+1:=by simp
 simp?[p_,eS,eL];generalize hZ:iN _ _ _ _ _ _=Z
 obtain⟨qz,S',⟨⟨w,rfl,hw⟩,D,rfl,hD⟩,rfl⟩:=gy hZ (λi τ S'=>(∃w,τ=some uT::some (.ls (X.map fB.t))::some (.hd S.length)::some (.hd (S.length+1))::w/\w.length=8)/\∃D,S'=S++[.aM ((gf u (X.take i)).map Gf),.i7 D]/\Wy D (X.take i)) (λ_ _ _ _=>trivial) ⟨⟨_,rfl,rfl⟩,[],rfl,zaf _,λ_=>rfl⟩ (by
  rintro i t τ S' ht ⟨⟨w,rfl,hw⟩,D,rfl,hD⟩
  rw[zas] at ht;cases hr:X[i]? with
  |none=>rw[hr] at ht;cases ht
  |some r =>
   rw[hr] at ht;cases ht;obtain⟨v5,v6,v7,v8,v9,v10,Mc,v12,rfl⟩:∃v5 v6 v7 v8 v9 v10 Mc v12,w=[v5,v6,v7,v8,v9,v10,Mc,v12]:=by
    match w,hw with
    |[v5,v6,v7,v8,v9,v10,Mc,v12],_=>exact⟨_,_,_,_,_,_,_,_,rfl⟩
   have et:X.take (i+1)=X.take i++[r]:=by rw[zcX,hr];rfl
   have hi:i<X.length:=(zae.mp hr).1
   have pl:=qv u (X.take i)
   rw[zaG] at pl;have hk':∀q∈X.take i++[r],Rk q:=λq hq=>hk q (by rw[<-et] at hq;exact zez hq)
   have e5:(gf u (X.take (i+1))).map Gf=((gf u (X.take i)).map Gf++[.tp [.tp [.int r.a,.str r.f],o9 (Ld u r.e)]])++[.tp [.tp [.int r.a,.str r.o],.tp [.int 0,.int 0,.int 0,.int 0]]]:=by
    rw[et,wL,zaD,zaD];rfl
   have z1:((gf u (X.take i)).length<sizeLine)=True:=iP (by omega)
   have z2:((gf u (X.take i)).length+1<sizeLine)=True:=iP (by omega)
   have hDl:=hD.1;rw[zaG] at hDl;have z3:(D.length<sizeLine)=True:=iP (by omega)
   have h1:=hb r.e;have k3:∀S,aL r.e.t (.int 4) S = .ok (.str r.e.w) S:=λS=>rfl
   have kt:yz (.tp [.int r.a,.str r.q])=some (kP (r.a,r.q)):=rfl
   have gP:∀(x:Ce) t,oJ (.hd (S.length+1)) (.tp [.int r.a,.str r.q]) t (S++[x,.i7 D]) = .ok () (S++[x,.i7 (d8 D (kP (r.a,r.q)) t)]):=λx t=>by
    have hz3:D.length<sizeLine:=of_eq_true z3
    unfold oJ;simp only[cc1,kt,if_pos hz3,cs1]
   generalize gf u (X.take i)=PQ at *
   by_cases hq:r.q=""
   ·refine⟨[some uT,some (.ls (X.map fB.t)),some (.hd S.length),some (.hd (S.length+1)),some (.int r.a),some (.int r.b),some (.int r.c),some (.str r.f),some (.str r.o),some (.str r.w),some r.e.t,some (.str r.q)],S++[.aM ((gf u (X.take (i+1))).map Gf),.i7 D],.inl ?_,⟨_,rfl,rfl⟩,D,rfl,by rw[et];exact hD.no hk' hq⟩
    rw[e5];unfold fB.t;generalize o9 (Ld u r.e)=vt at *
    generalize r.e.t=et0 at *
    simp?[h1,cc0,cs0,z1,z2,hq,zad,zak,zar,zba]
   ·refine⟨[some uT,some (.ls (X.map fB.t)),some (.hd S.length),some (.hd (S.length+1)),some (.int r.a),some (.int r.b),some (.int r.c),some (.str r.f),some (.str r.o),some (.str r.w),some r.e.t,some (.str r.q)],S++[.aM ((gf u (X.take (i+1))).map Gf),.i7 (d8 D (kP (r.a,r.q)) (.str r.e.w))],.inl ?_,⟨_,rfl,rfl⟩,_,rfl,by rw[et];exact hD.yes⟩
    rw[e5];unfold fB.t;generalize o9 (Ld u r.e)=vt at *
    generalize r.e.t=et0 at *
    simp?[h1,cc0,cs0,z1,z2,hq,zad,zak,zar,zba,qW,↓k3,gP])
 rw[zad,zbt] at *
 obtain⟨v5,v6,v7,v8,v9,v10,Mc,v12,rfl⟩:∃v5 v6 v7 v8 v9 v10 Mc v12,w=[v5,v6,v7,v8,v9,v10,Mc,v12]:=by
  match w,hw with
  |[v5,v6,v7,v8,v9,v10,Mc,v12],_=>exact⟨_,_,_,_,_,_,_,_,rfl⟩
 have pl:=qv u X;obtain⟨c,e1⟩:=aj9 (S:=S++[.aM ((gf u X).map Gf),.i7 D]) (n:=S.length) (gf u X) cc0 (by omega)
 have tl:(fG (gf u X)).length<=2000:=by have:=(iw (gf u X)).2.2;unfold fG;rw[zad];omega
 have g1:(S++[Ce.aM ((gf u X).map Gf),Ce.i7 D]++[c])[S.length+1]? = some (.i7 D):=pZ cc1 _
 have lS:(S++[Ce.aM ((gf u X).map Gf),Ce.i7 D]++[c]).length=S.length+3:=by simp
 have ov:nu S (S++[Ce.aM ((gf u X).map Gf),Ce.i7 D]++[c]):=⟨[Ce.aM ((gf u X).map Gf),Ce.i7 D]++[c],by rw[zbB]⟩
 generalize S++[Ce.aM ((gf u X).map Gf),Ce.i7 D]++[c]=S2 at *
 generalize S++[Ce.aM ((gf u X).map Gf),Ce.i7 D]=S1 at *
 have q1:ckT S2 (.hd (S.length+1))=true:=by unfold ckT;simp only[g1]
 have q2:∀k,sM S2 (.hd (S.length+1)) (j6 k)=some (aH (kP k) D):=λk=>by
  unfold sM;simp only[g1,tu,zbL]
 generalize fG (gf u X)=T at *
 refine⟨S2.length,S2++[.aM (T.map (jx X))],?_,dF _ _,ov.rJ _,by omega⟩
 simp?[e1];rw[eX trivial (λτ=>∃v,τ=[some (.hd (S.length+1)),v]) Kr (jx X) (λ_=>true) T _ [] ⟨_,rfl⟩ ?_ (by simp;omega)]
 ·rw[Hv,zbS.mpr (λ_ _=>rfl)]
  simp only[↓bp,bx,simprocAttr]
 ·rintro p hp τ ⟨v,rfl⟩
  refine⟨[some (.hd (S.length+1)),some (Kr p)],⟨_,rfl⟩,rfl,rfl,λ_=>?_⟩
  have h1:=q2 p.1;have h2:=hD.2 p.1;have cS:HT.gC 6 0 none=0:=rfl
  have cE:HT.gC 6 6 (some 2)=2:=rfl
  have cc:∀a b c d e f:Tr,Ah [a,b,c,d,e,f] none (some 2)=[a,b]:=λ_ _ _ _ _ _=>rfl
  unfold jx Kr;unfold j6 at h1;simp?[Fx,q1,cS,cE,cc,h1,h2]
noncomputable def pc (a b c d e:Tr):List (dh×Tr):=[(.inr (Str.ofString "team"),a),(.inr (Str.ofString "bat"),b),(.inr (Str.ofString "charged"),c),(.inr (Str.ofString "fair"),d),(.inr (Str.ofString "faced"),e)]
section
variable {a b c d e:Tr}
theorem aof:aH (.inr (Str.ofString "bat")) (pc a b c d e)=some b:=by kernel_rfl
theorem aog:aH (.inr (Str.ofString "faced")) (pc a b c d e)=some e:=by kernel_rfl
theorem afc:eW [] [(.inr (Str.ofString "team"),a),(.inr (Str.ofString "bat"),b),(.inr (Str.ofString "charged"),c),(.inr (Str.ofString "fair"),d),(.inr (Str.ofString "faced"),e)]=pc a b c d e:=by kernel_rfl
end
theorem wM (h1:∀S,f1 τ S = .ok t1 S)(h2:∀S,f2 τ S = .ok t2 S)(h3:∀S,f3 τ S = .ok t3 S)(h4:∀S,f4 τ S = .ok t4 S)(h5:∀S,f5 τ S = .ok t5 S):aD (jn [(mC (.str "team"),f1),(mC (.str "bat"),f2),(mC (.str "charged"),f3),(mC (.str "fair"),f4),(mC (.str "faced"),f5)]) τ S = .rt (.hd S.length) (S++[.gS (pc t1 t2 t3 t4 t5)]):=by
 have hd0:=yv S []
 have hs0:=λc=>Au S (Ce.gS []) c
 simp?[h1,h2,h3,h4,h5,afc,hd0,hs0]
theorem QH (u:U)(b:B)(hb:b.k∈wI)(S:Cs):∃x1 x3 x4,wC [u.t,b.t] S = .ok (.hd S.length) (S++[.gS (pc x1 (.int (Dw u b.k b.r).wU) x3 x4 (.int (b2i (!decide (b.k="wide")))))]):=by
 obtain⟨k,r,rp,w,Lc,en⟩:=b;have hb:k∈wI:=hb
 have hk:k="bat" \/ (k="bye" \/ k="leg")\/k="wide" \/ k="no" \/ k="nobye" := by
  unfold wI at hb;simp only[zap,zaC,or_false] at hb;rcases hb with h|h|h|h|h|h|h|h<;>simp[h]
 have i1:∀S,aL (B.t ⟨k,r,rp,w,Lc,en⟩) (.int 1) S = .ok (.str k) S:=λ_=>rfl
 have i2:∀S,aL (B.t ⟨k,r,rp,w,Lc,en⟩) (.int 2) S = .ok (.int r) S:=λ_=>rfl
 have i3:∀S,aL u.t (.int 3) S = .ok (.int u.w) S:=λ_=>rfl
 have i4:∀S,aL u.t (.int 4) S = .ok (.int u.n) S:=λ_=>rfl
 have f:(¬ k="wide" -> b2i (!decide (k="wide"))=1)/\(k="wide" -> b2i (!decide (k="wide"))=0):=by
  unfold b2i;exact⟨λq=>by rw[decide_eq_false q];rfl,λq=>by rw[decide_eq_true q];rfl⟩
 show ∃x1 x3 x4,wC [u.t,B.t ⟨k,r,rp,w,Lc,en⟩] S = .ok (.hd S.length) (S++[.gS (pc x1 (.int (Dw u k r).wU) x3 x4 (.int (b2i (!decide (k="wide")))))])
 unfold Dw;generalize B.t ⟨k,r,rp,w,Lc,en⟩=bt at *
 generalize u.t=ut at *
 have hA:∀(i:Tr) (v:Int),(∀S,aL ut i S = .ok (.int v) S)->∀S,ai cO (aa 3) (ai aL (aa 0) (mC i)) [some ut,some bt,some (.str k),some (.int r)] S = .ok (.int (r+v)) S:=λi v q S=>by
  simp?[↓q]
 have hB:∀S,ai aL (aa 0) (mC (.int 4)) [some ut,some bt,some (.str k),some (.int r)] S = .ok (.int u.n) S:=λS=>by
  simp?[↓i4]
 have d1:=wM (S:=S) (τ:= [some ut,some bt,some (.str k),some (.int r)]) (f1:=aa 3) (f2:=aa 3) (f3:=aa 3) (f4:=mC (.int 1)) (f5:=mC (.int 1)) (λ_=>rfl) (λ_=>rfl) (λ_=>rfl) (λ_=>rfl) (λ_=>rfl)
 have d2:=wM (S:=S) (τ:= [some ut,some bt,some (.str k),some (.int r)]) (f1:=aa 3) (f2:=mC (.int 0)) (f3:=mC (.int 0)) (f4:=mC (.int 1)) (f5:=mC (.int 1)) (λ_=>rfl) (λ_=>rfl) (λ_=>rfl) (λ_=>rfl) (λ_=>rfl)
 have d3:=wM (S:=S) (τ:= [some ut,some bt,some (.str k),some (.int r)]) (f2:=mC (.int 0)) (f4:=mC (.int 0)) (f5:=mC (.int 0)) (hA _ _ i3) (λ_=>rfl) (hA _ _ i3) (λ_=>rfl) (λ_=>rfl)
 have d4:=wM (S:=S) (τ:= [some ut,some bt,some (.str k),some (.int r)]) (f2:=aa 3) (f4:=mC (.int 0)) (f5:=mC (.int 1)) (hA _ _ i4) (λ_=>rfl) (hA _ _ i4) (λ_=>rfl) (λ_=>rfl)
 have d5:=wM (S:=S) (τ:= [some ut,some bt,some (.str k),some (.int r)]) (f2:=mC (.int 0)) (f4:=mC (.int 0)) (f5:=mC (.int 1)) (hA _ _ i4) (λ_=>rfl) hB (λ_=>rfl) (λ_=>rfl)
 clear hA hB
 unfold wC;generalize aD (jn [(mC (.str "team"),aa 3),(mC (.str "bat"),aa 3),(mC (.str "charged"),aa 3),(mC (.str "fair"),mC (.int 1)),(mC (.str "faced"),mC (.int 1))])=R1 at *
 generalize aD (jn [(mC (.str "team"),aa 3),(mC (.str "bat"),mC (.int 0)),(mC (.str "charged"),mC (.int 0)),(mC (.str "fair"),mC (.int 1)),(mC (.str "faced"),mC (.int 1))])=R2 at *
 generalize aD (jn [(mC (.str "team"),ai cO (aa 3) (ai aL (aa 0) (mC (.int 3)))),(mC (.str "bat"),mC (.int 0)),(mC (.str "charged"),ai cO (aa 3) (ai aL (aa 0) (mC (.int 3)))),(mC (.str "fair"),mC (.int 0)),(mC (.str "faced"),mC (.int 0))])=R3 at *
 generalize aD (jn [(mC (.str "team"),ai cO (aa 3) (ai aL (aa 0) (mC (.int 4)))),(mC (.str "bat"),aa 3),(mC (.str "charged"),ai cO (aa 3) (ai aL (aa 0) (mC (.int 4)))),(mC (.str "fair"),mC (.int 0)),(mC (.str "faced"),mC (.int 1))])=R4 at *
 generalize aD (jn [(mC (.str "team"),ai cO (aa 3) (ai aL (aa 0) (mC (.int 4)))),(mC (.str "bat"),mC (.int 0)),(mC (.str "charged"),ai aL (aa 0) (mC (.int 4))),(mC (.str "fair"),mC (.int 0)),(mC (.str "faced"),mC (.int 1))])=R5 at *
 by_cases h1:k="bat"
 ·rw[f.1 (λz=>absurd (h1.symm.trans z) (by decide +kernel)),if_pos h1]
  have h1:=eq_true h1;exact⟨_,_,_,by simp?[↓i1,↓i2,h1,d1];rfl⟩
 ·by_cases h2:k="bye" \/ k="leg"
  ·have n2:¬ k="wide" := λz=>by rcases h2 with h|h<;>rw[h] at z<;>exact absurd z (by decide +kernel)
   have n3:¬ k="no" := λz=>by rcases h2 with h|h<;>rw[h] at z<;>exact absurd z (by decide +kernel)
   have n4:¬ k="nobye" := λz=>by rcases h2 with h|h<;>rw[h] at z<;>exact absurd z (by decide +kernel)
   rw[f.1 n2,if_neg h1,if_neg n2,if_neg n3,if_neg n4];exact⟨_,_,_,by simp?[↓i1,↓i2,h1,D_,bF,zaA,zaL,zaE,h2,d2];rfl⟩
  ·rw[if_neg h1]
   by_cases h3:k="wide"
   ·rw[if_pos h3,f.2 h3]
    have h3:=eq_true h3;exact⟨_,_,_,by simp?[↓i1,↓i2,h1,D_,bF,zaA,zaL,zaE,h2,h3,d3];rfl⟩
   ·rw[if_neg h3,f.1 h3]
    by_cases h4:k="no"
    ·rw[if_pos h4]
     have h4:=eq_true h4;exact⟨_,_,_,by simp?[↓i1,↓i2,h1,D_,bF,zaA,zaL,zaE,h2,h3,h4,d4];rfl⟩
    ·have h5:k="nobye" := by simpa only [h1,h2,h3,h4,false_or] using hk
     rw[if_neg h4,if_pos h5];exact⟨_,_,_,by simp?[↓i1,↓i2,h1,D_,bF,zaA,zaL,zaE,h2,h3,h4,d5];rfl⟩
theorem aka (l:List (Int×Str))(k:Int×Str)(h:S[n]? = some (.aM (l.map j6))):rV (j6 k) (.hd n) S = .ok (.bl (!decide (k∈l))) S:=by
 have h1:(l.map j6).all isP=true:=by
  rw[List.all_map,zcp];intro _ _;rfl
 have h2:(l.map j6).any (eqP k.1 k.2)=decide (k∈l):=by
  rw[zcE,zaU,zbW,decide_eq_true_iff];constructor
  ·rintro⟨x,hx,q⟩
   have:=of_decide_eq_true (show decide (x.1=k.1/\x.2=k.2)=true from q)
   have:x=k:=Prod.ext this.1 this.2
   exact this ▸ hx
  ·intro hk
   exact⟨k,hk,decide_eq_true ⟨rfl,rfl⟩⟩
 have h3:xA S (.hd n)=some (l.map j6):=by show cu S n=_;unfold cu;rw[h]
 unfold rV j6;simp only[h3,if_pos h1,h2]
theorem Vv (u:U)(X:List fB)(r:fB):qA (gf u (X++[r]))=(let O:=qA (gf u X);let O1:=if (r.a,r.f)∈O then O else O++[(r.a,r.f)];if (r.a,r.o)∈O1 then O1 else O1++[(r.a,r.o)]):=by
 rw[wL,nF,nF]
theorem akb (a b c d e f g h:Tr):Ah [a,b,c,d,e,f,g,h] (some 3) (some 5)=[d,e]:=rfl
theorem Vw (hl:X.length<=1000)(S:Cs):Iq [.ls (X.map fB.t)] S = .ok (.hd S.length) (S++[.aM ((qA (gf u X)).map j6)]):=by
 unfold Iq;simp only[↓bp,bx,simprocAttr];generalize hZ:iN _ _ _ _ _ _=Z
 obtain⟨qz,S',⟨⟨v,v',rfl⟩,rfl⟩,rfl⟩:=gy hZ (λi τ S'=>(∃v v',τ=[some (.ls (X.map fB.t)),some (.hd S.length),v,v'])/\S'=S++[.aM ((qA (gf u (X.take i))).map j6)]) (λ_ _ _ _=>trivial) ⟨⟨_,_,rfl⟩,rfl⟩ (by
  rintro i t τ S' ht ⟨⟨v,v',rfl⟩,rfl⟩
  rw[zas] at ht;cases hr:X[i]? with
  |none=>rw[hr] at ht;cases ht
  |some r =>
   rw[hr] at ht;cases ht;have et:X.take (i+1)=X.take i++[r]:=by rw[zcX,hr];rfl
   have hi:i<X.length:=(zae.mp hr).1
   have ol:=(iw (gf u (X.take i))).2.2
   rw[qv,zaG] at ol;refine⟨[some (.ls (X.map fB.t)),some (.hd S.length),some r.t,some (.str r.o)],S++[.aM ((qA (gf u (X.take (i+1)))).map j6)],.inl ?_,⟨_,_,rfl⟩,rfl⟩
   rw[et,Vv];generalize qA (gf u (X.take i))=O at *
   have sr:∀(O:List (Int×Str)) (n:Str) (v3:Option Tr),O.length<=3000->(cy (mB (ai rV (cL (af (ai aL (aa 2) (mC (.int 0))) (af (aa 3) aj))) (aa 1))) (dW (pR DY sH (aa 1) (af (cL (af (ai aL (aa 2) (mC (.int 0))) (af (aa 3) aj))) aj))) ay) [some (.ls (X.map fB.t)),some (.hd S.length),some r.t,some (.str n)] (S++[.aM (O.map j6)]) = .nx [some (.ls (X.map fB.t)),some (.hd S.length),some r.t,some (.str n)] (S++[.aM ((if (r.a,n)∈O then O else O++[(r.a,n)]).map j6)]):=λO n v3 hO=>by
    have h1:=aka O (r.a,n) (S:=S++[Ce.aM (O.map j6)]) (dF _ _)
    have h1:rV (.tp [.int r.a,.str n]) (.hd S.length) (S++[Ce.aM (O.map j6)])=_:=h1
    have hz:(O.length<sizeLine)=True:=iP (by omega)
    unfold fB.t;by_cases q:(r.a,n)∈O
    ·rw[decide_eq_true q] at h1
     rw[if_pos q];simp?[↓h1,Bool.not_true]
    ·rw[decide_eq_false q] at h1
     rw[if_neg q,zaD];have e2:([(r.a,n)].map j6)=[.tp [.int r.a,.str n]]:=rfl
     rw[e2];simp?[↓h1,Bool.not_false,P9,sa0,hz,zad]
   have s1:=sr O r.f none (by omega)
   have l1:(if (r.a,r.f)∈O then O else O++[(r.a,r.f)]).length<=3000:=by
    split
    ·omega
    ·simp;omega
   have s2:=sr _ r.o none l1;clear sr
   generalize cy (mB (ai rV (cL (af (ai aL (aa 2) (mC (.int 0))) (af (aa 3) aj))) (aa 1))) (dW (pR DY sH (aa 1) (af (cL (af (ai aL (aa 2) (mC (.int 0))) (af (aa 3) aj))) aj))) ay=IF at *
   dsimp only;generalize (if (r.a,r.f)∈O then O else O++[(r.a,r.f)])=O1 at *
   have iTv:∀(l:List Tr) (S:Cs),iT (.tp l) S = .ok ⟨l,λ_=>True⟩ S:=λ_ _=>rfl
   have cS:HT.gC 8 0 (some 3)=3:=rfl
   have cE:HT.gC 8 8 (some 5)=5:=rfl
   unfold fB.t at s1 s2 ⊢
   generalize r.e.t=et0 at *
   simp?[akb,cS,cE,iTv,s1,s2])
 rw[zad,zbt];simp only[↓bp,bx,simprocAttr]
noncomputable def j7 (a:Int)(n:Str)(s:V4×Str):List Tr:=[.int a,.str n,.int s.1.1,.int s.1.2.1,.int s.1.2.2.1,.int s.1.2.2.2,.str s.2]
theorem Vx (hk:Rk r)(hn:S[n]? = some (.aM (j7 a nm s)))(hF:F=(ao (bh 8 (dM 2 wC (af (aa 0) (af (ai aL (aa 7) (mC (.int 6))) aj))))
   (ao (cy (mB (ai (bY false) (ai aL (aa 7) (mC (.int 3))) (aa 4)))
   (ao (mG (ai cO (ai aL (aa 5) (mC (.int 2))) (ai kE (aa 8) (mC (.str "bat")))) (pS (aa 5) (mC (.int 2))))
   (ao (mG (ai cO (ai aL (aa 5) (mC (.int 3))) (ai kE (aa 8) (mC (.str "faced")))) (pS (aa 5) (mC (.int 3))))
   (cy (mD (mB (ai aL (ai aL (aa 7) (mC (.int 6))) (mC (.int 3)))) (mB (ai (uv false) (ai aL (ai aL (aa 7) (mC (.int 6))) (mC (.int 1))) (cL (af (mC (.str "bat")) (af (mC (.str "no")) aj))))))
   (ao (mG (ai cO (ai aL (aa 5) (mC (.int 4))) (bL mE (af (ai (bY false) (ai aL (ai aL (aa 7) (mC (.int 6))) (mC (.int 2))) (mC (.int 4))) aj))) (pS (aa 5) (mC (.int 4))))
   (mG (ai cO (ai aL (aa 5) (mC (.int 5))) (bL mE (af (ai (bY false) (ai aL (ai aL (aa 7) (mC (.int 6))) (mC (.int 2))) (mC (.int 6))) aj))) (pS (aa 5) (mC (.int 5)))))
   ay)))
   ay)
   (cy (mB (ai (bY false) (ai aL (aa 7) (mC (.int 7))) (aa 4)))
   (mG (ai aL (ai aL (aa 7) (mC (.int 6))) (mC (.int 4))) (pS (aa 5) (mC (.int 6))))
   ay)))):∃D,F [some u.t,some Zh,some (.hd dd),some (.int a),some (.str nm),some (.hd n),some MI,some r.t,v8] S = .nx [some u.t,some Zh,some (.hd dd),some (.int a),some (.str nm),some (.hd n),some MI,some r.t,some (.hd S.length)] ((S++[D]).set n (.aM (j7 a nm (if r.f=nm then qu s.1 (Ld u r.e) else s.1,if r.q=nm then r.e.w else s.2)))):=by
 obtain⟨x1,x3,x4,hc⟩:=QH u r.e hk.1 S;obtain⟨D,hD⟩:∃D,D=Ce.gS (pc x1 (.int (Dw u r.e.k r.e.r).wU) x3 x4 (.int (b2i (!decide (r.e.k="wide"))))):=⟨_,rfl⟩
 rw[<-hD] at hc;have DU:=bq hn;have g0:(S++[D])[n]? = some (.aM (j7 a nm s)):=pZ hn _
 have gD:∀c,((S++[D]).set n c)[S.length]? = some D:=λc=>by rw[zay (by omega)];exact i_ _ _
 have gD0:(S++[D])[S.length]? = some D:=i_ _ _
 have rd:∀(S':Cs),S'[S.length]? = some D->kE (.hd S.length) (.str (Str.ofString "bat")) S' = .ok (.int (Dw u r.e.k r.e.r).wU) S'/\kE (.hd S.length) (.str (Str.ofString "faced")) S' = .ok (.int (b2i (!decide (r.e.k="wide")))) S':=λS' q=>by
  subst hD;have e1:gJ (.str (Str.ofString "bat"))=some (.inr (Str.ofString "bat")):=rfl
  have e2:gJ (.str (Str.ofString "faced"))=some (.inr (Str.ofString "faced")):=rfl
  unfold kE JE oG;simp only[q,e1,e2,aof,aog,and_self]
 have r1:=(rd _ gD0).1
 have r2:=λc=>(rd _ (gD c)).2
 have gs:∀c,((S++[D]).set n c)[n]? = some c:=λc=>oX (by rw[zak];omega)
 refine⟨D,?_⟩
 clear rd gD gD0 hD
 have hs:(S++[D]).set n (.aM (j7 a nm s))=S++[D]:=by
  refine List.ext_getElem? λj=>?_
  by_cases hj:n=j
  ·subst hj;rw[gs,g0]
  ·rw[zay hj]
 obtain⟨⟨s1,s2,s3,s4⟩,sw⟩:=s
 have hb:Ld u r.e=((Dw u r.e.k r.e.r).wU,b2i (!decide (r.e.k="wide")),b2i (nG r.e 4),b2i (nG r.e 6)):=rfl
 have i3:∀S,aL r.e.t (.int 3) S = .ok (.bl r.e.rp) S:=λ_=>rfl
 have i1:∀S,aL r.e.t (.int 1) S = .ok (.str r.e.k) S:=λ_=>rfl
 have i2:∀S,aL r.e.t (.int 2) S = .ok (.int r.e.r) S:=λ_=>rfl
 have i4:∀S,aL r.e.t (.int 4) S = .ok (.str r.e.w) S:=λ_=>rfl
 have k4:=λb S=>QE b S
 have hrt:r.t = .tp [.int r.a,.int r.b,.int r.c,.str r.f,.str r.o,.str r.w,r.e.t,.str r.q]:=rfl
 subst hF;rw[hrt,hb];have hrk:∀m:Int,(r.e.rp=true/\(r.e.k="bat" \/ r.e.k="no")->nG r.e m=decide (r.e.r=m))/\(¬ (r.e.rp=true/\(r.e.k="bat" \/ r.e.k="no"))->nG r.e m=false):=λm=>by
  unfold nG;refine⟨λq=>by rw[decide_eq_true q.2,q.1,zci,zci],λq=>?_⟩
  by_cases q1:r.e.k="bat" \/ r.e.k="no"
  ·have:r.e.rp=false:=by
    cases h:r.e.rp
    ·rfl
    ·exact absurd ⟨h,q1⟩ q
   rw[this,zbT,Bool.and_false]
  ·rw[decide_eq_false q1,zbT]
 have h4:=hrk 4;have h6:=hrk 6;clear hrk hb hrt
 generalize nG r.e 4=p4 at *
 generalize nG r.e 6=p6 at *
 generalize (Dw u r.e.k r.e.r).wU=bt at *
 generalize b2i (!decide (r.e.k="wide"))=fc at *
 generalize r.e.t=et at *
 generalize u.t=ut at *
 generalize r.e.k=kk at *
 generalize r.e.rp=rp at *
 generalize r.e.r=rr at *
 generalize r.e.w=ww at *
 generalize S++[D]=Sx at *
 unfold j7 qu at *
 have x2:zK 7 2=some 2:=rfl
 have x3:zK 7 3=some 3:=rfl
 have x4:zK 7 4=some 4:=rfl
 have x5:zK 7 5=some 5:=rfl
 have x6:zK 7 6=some 6:=rfl
 have hG:∀p q x y:Int,(cy (mB (ai (bY false) (ai aL (aa 7) (mC (.int 7))) (aa 4)))
   (mG (ai aL (ai aL (aa 7) (mC (.int 6))) (mC (.int 4))) (pS (aa 5) (mC (.int 6))))
   ay) [some ut,some Zh,some (.hd dd),some (.int a),some (.str nm),some (.hd n),some MI,some (.tp [.int r.a,.int r.b,.int r.c,.str r.f,.str r.o,.str r.w,et,.str r.q]),some (.hd S.length)] (Sx.set n (.aM [.int a,.str nm,.int p,.int q,.int x,.int y,.str sw])) = .nx [some ut,some Zh,some (.hd dd),some (.int a),some (.str nm),some (.hd n),some MI,some (.tp [.int r.a,.int r.b,.int r.c,.str r.f,.str r.o,.str r.w,et,.str r.q]),some (.hd S.length)] (Sx.set n (.aM [.int a,.str nm,.int p,.int q,.int x,.int y,.str (if r.q=nm then ww else sw)])):=λp q x y=>by
  by_cases hq:r.q=nm
  ·rw[if_pos hq]
   have hq:=eq_true hq;simp?[hq,gs,↓i4,zco,x6,zbJ,zcz]
  ·rw[if_neg hq]
   simp?[hq]
 generalize (cy (mB (ai (bY false) (ai aL (aa 7) (mC (.int 7))) (aa 4)))
   (mG (ai aL (ai aL (aa 7) (mC (.int 6))) (mC (.int 4))) (pS (aa 5) (mC (.int 6))))
   ay)=G at *
 have hG0:=hG s1 s2 s3 s4;rw[hs] at hG0;by_cases hf:r.f=nm
 ·rw[if_pos hf]
  have hf:=eq_true hf;by_cases RG:rp=true/\(kk="bat" \/ kk="no")
  ·rw[h4.1 RG,h6.1 RG]
   obtain⟨c1,c2⟩:=RG;subst c1;simp?[hc,hf,g0,gs,↓r1,↓r2,↓i1,↓i2,↓i3,↓k4,D_,bF,zaA,zaL,zaE,zco,x2,x3,x4,x5,zbJ,zcz,c2,hG]
  ·rw[h4.2 RG,h6.2 RG]
   have z0:b2i false=0:=rfl
   have hcc:rp=false\/(rp=true/\¬ (kk="bat" \/ kk="no")):=by
    cases rp
    ·exact .inl rfl
    ·exact .inr ⟨rfl,λz=>RG ⟨rfl,z⟩⟩
   rcases hcc with c1|⟨c1,c2⟩
   ·subst c1
    simp?[hc,hf,g0,gs,↓r1,↓r2,↓i1,↓i2,↓i3,↓k4,D_,bF,zaA,zaL,zaE,zco,x2,x3,x4,x5,zbJ,zcz,z0,zeP,hG]
   ·subst c1
    simp?[hc,hf,g0,gs,↓r1,↓r2,↓i1,↓i2,↓i3,↓k4,D_,bF,zaA,zaL,zaE,zco,x2,x3,x4,x5,zbJ,zcz,c2,z0,zeP,hG]
 ·rw[if_neg hf]
  simp?[hc,hf,hG0]
theorem Zi:∀{l:List Tr},(∀t∈l,t.dp<=n)->Tr.DX l<=n
 |[],_=>by unfold Tr.DX;exact zcA _
 |t::l,h=>by
  unfold Tr.DX;exact Nat.max_le.mpr ⟨h t (by simp),Zi λu hu=>h u (by simp[hu])⟩
theorem QI:∀{l:List Tr} {t:Tr},t∈l->t.dp<=Tr.DX l
 |u::l,t,h=>by
  unfold Tr.DX;rcases zap.mp h with rfl|h
  ·exact Nat.le_max_left ..
  ·exact zai (QI h) (Nat.le_max_right ..)
theorem Zj (S:Cs):∀(n:Nat) (t:Tr),t.qO=true->t.dp<=n->vw n S t=t
 |0,t,_,_=>by cases t<;>rfl
 |n+1,t,h,hd=>by
  have key:∀l:List Tr,Tr.pP l=true->Tr.DX l<=n->l.map (vw n S)=l:=λl h1 h2=>by
   rw[pX,zcp] at h1;have:l.map (vw n S)=l.map _root_.id:=zbR λt ht=>Zj S n t (h1 t ht) (zai (QI ht) h2)
   rw[this,List.map_id]
  cases t with
  |tp l =>
   unfold Tr.qO at h;unfold Tr.dp at hd;show Tr.tp (l.map (vw n S))=_
   rw[key l h (by omega)]
  |ls l =>
   unfold Tr.qO at h;unfold Tr.dp at hd;show Tr.ls (l.map (vw n S))=_
   rw[key l h (by omega)]
  |hd i=>unfold Tr.qO at h;cases h
  |kl l=>unfold Tr.qO at h;cases h
  |kt l=>unfold Tr.qO at h;cases h
  |_=>rfl
noncomputable def IL (S:Cs)(t:Tr)(l:List Tr):Prop:=t = .ls l\/∃k,t = .hd k/\S[k]? = some (.aM l)
theorem IL.vw (h:IL S t l)(hn:Tr.pP l=true)(hd:Tr.DX l<=5):vw 6 S t = .ls l:=by
 have key:l.map (L2.vw 5 S)=l:=by
  rw[pX,zcp] at hn;have:l.map (L2.vw 5 S)=l.map _root_.id:=zbR λt ht=>Zj S 5 t (hn t ht) (zai (QI ht) hd)
  rw[this,List.map_id]
 rcases h with rfl|⟨k,rfl,hk⟩
 ·show Tr.ls (l.map (L2.vw 5 S))=_
  rw[key]
 ·show (match cu S k with|some l=>Tr.ls (l.map (L2.vw 5 S))|none=>.hd k)=_
  have:cu S k=some l:=by unfold cu;rw[hk]
  rw[this];simp only[key]
theorem QJ (h1:IL S t1 l)(h2:IL S t2 l)(hn:Tr.pP l=true)(hd:Tr.DX l<=5):bY neg t1 t2 S = .ok (.bl (!neg)) S:=by
 have e1:=h1.vw hn hd;have e2:=h2.vw hn hd;have e0:MW t1 t2=none:=by
  rcases h1 with rfl|⟨k,rfl,_⟩<;>rcases h2 with rfl|⟨k,rfl,_⟩<;>rfl
 unfold bY;rw[e0];simp only
 rw[e1,e2,if_pos];refine⟨rfl,by unfold Tr.qO;exact hn,by unfold Tr.dp;omega,by unfold Tr.dp;omega⟩
theorem Vy {l:List fB}(S:Cs):bY true (.ls (l.map fB.t)) (.ls (l.map fB.t)) S = .ok (.bl false) S:=by
 refine QJ (neg:=true) (.inl rfl) (.inl rfl) ?_ (Zi λt ht=>?_)
 ·rw[pX,List.all_map,zcp]
  intro _ _;rfl
 ·obtain⟨r,_,rfl⟩:=zbw.mp ht
  simp[fB.t,B.t,Tr.dp,Tr.DX]
theorem afd (rs:List fB)(i j:Nat)(h:i<=j):Ah (rs.map fB.t) (some (i:Int)) (some (j:Int))=((rs.take j).drop i).map fB.t:=by
 rw[UQ _ i j h,<-List.map_take,<-List.map_drop]
theorem afe (hD:cH S d k)(hk:k<100000)(rs:List fB)(hl:rs.length<=1000):∃(Qy:List fB) (S':Cs),Io [.hd d,.ls (rs.map fB.t)] S = .ok (.ls (Qy.map fB.t)) S'/\Dk S S' d (k+3)/\(∀r∈Qy,r∈rs)/\Qy.length<=rs.length:=by
 obtain⟨a1,S1,l1,m1,e1,D1⟩:=eE hD (by omega) (many:=2) (by decide) (by decide)
 unfold Io;by_cases q:a1=0
 ·refine⟨rs,S1,?_,D1.mono (by omega),λ_ h=>h,zaf _⟩
  simp?[e1,q]
 ·have z1:(rs.length<=sizeLine)=True:=bO (by omega)
  obtain⟨a2,S2,l2,m2,e2,D2⟩:=eE D1.gZ (by omega) (many:=(rs.length:Int)+1) (by omega) (by omega)
  obtain⟨a3,S3,l3,m3,e3,D3⟩:=eE D2.gZ (by omega) (many:=(rs.length:Int) - a2+1) (by omega) (by omega)
  obtain⟨i,rfl⟩:=zbh l2;obtain⟨j,rfl⟩:=zbh l3;have ec:=afd rs i (i+j) (by omega)
  rw[show ((i+j:Nat):Int)=(i:Int)+(j:Int) by omega] at ec
  refine⟨(rs.take (i+j)).drop i,S3,?_,((D1.tr D2).tr D3).mono (by omega),λr hr=>zez (List.mem_of_mem_drop hr),by rw[zdd,zaG];omega⟩
  simp?[e1,q,e2,e3,z1,ec,zad]
theorem kC7:Hl [x0,x1,x2,x3,x4,x5,x6] S = .ok (.hd S.length) (S++[.aM [x0,x1,x2,x3,x4,x5,x6]]):=if_pos (sl 7 rfl)
theorem akc (hk:∀r∈X,Rk r)(hl:X.length<=1000)(S:Cs):∃S',Ir [u.t,.ls (X.map fB.t)] S = .ok (.hd S.length) S'/\S'[S.length]? = some (.aM ((fG (gf u X)).map (jx X)))/\nu S S':=by
 have ho:=Vw (u:=u) hl (S++[.aM []])
 have eS:S++[Ce.aM []]++[Ce.aM ((qA (gf u X)).map j6)]=S++Ce.aM []::Ce.aM ((qA (gf u X)).map j6)::[]:=by simp
 have eL:(S++[Ce.aM []]).length=S.length+1:=by simp
 rw[eS,eL] at ho;have tk:fG (gf u X)=(qA (gf u X)).map λk=>(k,jf (iH (gf u X) k)):=rfl
 have ol:(qA (gf u X)).length<=2000:=by have:=(iw (gf u X)).2.2;rw[qv] at this;omega
 generalize qA (gf u X)=O at *
 have ht1:=λ(r:fB) (hk:Rk r) (S:Cs) (n:Nat) (a:Int) (nm:Str) (s:V4×Str) (hn:S[n]? = some (.aM (j7 a nm s))) (Zh MI:Tr) (dd:Nat) (v8:Option Tr) (F:Sm)=>Vx (u:=u) hk hn (Zh:=Zh) (MI:=MI) (dd:=dd) (v8:=v8) (F:=F)
 obtain⟨uT,QA⟩:∃uT,uT=u.t:=⟨_,rfl⟩
 rw[<-QA];simp only[<-QA] at ht1;have g0:(S++Ce.aM []::Ce.aM (O.map j6)::[])[S.length+1]? = some (.aM (O.map j6)):=ga1
 unfold Ir;generalize hF:(ao (bh 8 (dM 2 wC (af (aa 0) (af (ai aL (aa 7) (mC (.int 6))) aj)))) _)=F
 replace ht1:=λr hk S n a nm s hn Zh MI dd v8=>ht1 r hk S n a nm s hn Zh MI dd v8 F hF.symm
 clear hF
 simp?[ho,g0];generalize hZ:iN _ _ _ _ _ _=Z
 obtain⟨qz,S',⟨⟨w,rfl,hw⟩,J,rfl⟩,rfl⟩:=gy hZ (λi τ S'=>(∃w,τ=some uT::some (.ls (X.map fB.t))::some (.hd S.length)::w/\w.length=6)/\∃J,S'=S++Ce.aM (((fG (gf u X)).take i).map (jx X))::Ce.aM (O.map j6)::J) (λi τ S' ⟨_,J,q⟩=>by rw[q];show cu _ (S.length+1)=_;unfold cu;rw[ga1]) ⟨⟨_,rfl,rfl⟩,[],rfl⟩ (by
  rintro i t τ S' ht ⟨⟨w,rfl,hw⟩,J,rfl⟩
  obtain⟨w3,w4,w5,w6,w7,w8,rfl⟩:∃w3 w4 w5 w6 w7 w8,w=[w3,w4,w5,w6,w7,w8]:=by
   match w,hw with
   |[w3,w4,w5,w6,w7,w8],_=>exact⟨_,_,_,_,_,_,rfl⟩
  rw[zas] at ht;cases hr:O[i]? with
  |none=>rw[hr] at ht;cases ht
  |some k =>
   rw[hr] at ht;cases ht;obtain⟨ka,kn⟩:=k;have et:(fG (gf u X)).take (i+1)=(fG (gf u X)).take i++[((ka,kn),jf (iH (gf u X) (ka,kn)))]:=by
    rw[zcX,tk,zas,hr];rfl
   have aoi:jx X ((ka,kn),jf (iH (gf u X) (ka,kn))) = .tp (j7 ka kn (jw u (mJ X ka) kn)):=by rw[ae9];rfl
   have eY:(X.filter λr=>decide (r.a=ka))=mJ X ka:=rfl
   have hY:∀r∈mJ X ka,Rk r:=λr hr=>hk r (zdW.mp hr).1
   have hz:(((fG (gf u X)).take i).length<sizeLine)=True:=iP (by rw[zaG,tk,zad];omega)
   generalize Zb:S++Ce.aM (((fG (gf u X)).take i).map (jx X))::Ce.aM (O.map j6)::J=S1 at *
   have gB:∀K,(S1++K)[S.length]? = some (.aM (((fG (gf u X)).take i).map (jx X))):=λK=>by rw[<-Zb,zbB];exact P9
   have sB:∀c K,(S1++K).set S.length c=S++c::Ce.aM (O.map j6)::(J++K):=λc K=>by rw[<-Zb,zbB];exact sa0
   have r0:[Tr.int ka,.str kn,.int 0,.int 0,.int 0,.int 0,.str ""]=j7 ka kn (jw u ((mJ X ka).take 0) kn):=rfl
   unfold j6;simp?[↓kC7];rw[eX trivial (λτ=>∃v,τ=[some (.int ka),v]) fB.t fB.t (λr=>decide (r.a=ka)) X _ [] ⟨_,rfl⟩ ?_ (by simp;omega)]
   ·rw[Hv,eY,r0]
    generalize mJ X ka=Y at *
    simp only[↓bp,bx,simprocAttr];generalize hZ2:iN _ _ _ _ _ _=Z2
    obtain⟨ou,S2,⟨⟨v7,v8,rfl⟩,K,rfl⟩,rfl⟩:=gy hZ2 (λj τ S'=>(∃v7 v8,τ=[some uT,some (.ls (X.map fB.t)),some (.hd S.length),some (.int ka),some (.str kn),some (.hd S1.length),some (.ls (Y.map fB.t)),v7,v8])/\∃K,S'=S1++Ce.aM (j7 ka kn (jw u (Y.take j) kn))::K) (λ_ _ _ _=>trivial) ⟨⟨_,_,rfl⟩,[],rfl⟩ (by
     rintro j t τ S' ht ⟨⟨v7,v8,rfl⟩,K,rfl⟩
     rw[zas] at ht;cases hr:Y[j]? with
     |none=>rw[hr] at ht;cases ht
     |some r =>
      rw[hr] at ht;cases ht;have et2:Y.take (j+1)=Y.take j++[r]:=by rw[zcX,hr];rfl
      obtain⟨D,e1⟩:=ht1 r (hY r (zaR hr)) (S1++Ce.aM (j7 ka kn (jw u (Y.take j) kn))::K) S1.length ka kn (jw u (Y.take j) kn) P9 (.ls (X.map fB.t)) (.ls (Y.map fB.t)) S.length v8
      rw[<-DJ,<-et2,zbB] at e1;have e1:F _ _=RS.nx _ ((S1++Ce.aM (j7 ka kn (jw u (Y.take j) kn))::(K++[D])).set S1.length (Ce.aM (j7 ka kn (jw u (Y.take (j+1)) kn)))):=e1
      rw[sa0] at e1;exact⟨_,_,.inl e1,⟨_,_,rfl⟩,_,rfl⟩)
    rw[zad,zbt];have gt:lB [.hd S1.length] (S1++Ce.aM (j7 ka kn (jw u Y kn))::K) = .ok (.tp (j7 ka kn (jw u Y kn))) (S1++Ce.aM (j7 ka kn (jw u Y kn))::K):=by
     have:xA (S1++Ce.aM (j7 ka kn (jw u Y kn))::K) (.hd S1.length)=some (j7 ka kn (jw u Y kn)):=by show cu _ S1.length=_;unfold cu;rw[P9]
     unfold lB;simp only[this]
    have gB:=gB (Ce.aM (j7 ka kn (jw u Y kn))::K)
    have sB:=λc=>sB c (Ce.aM (j7 ka kn (jw u Y kn))::K)
    refine⟨[some uT,some (.ls (X.map fB.t)),some (.hd S.length),some (.int ka),some (.str kn),some (.hd S1.length),some (.ls (Y.map fB.t)),v7,v8],S++Ce.aM (((fG (gf u X)).take (i+1)).map (jx X))::Ce.aM (O.map j6)::(J++Ce.aM (j7 ka kn (jw u Y kn))::K),.inl ?_,⟨_,rfl,rfl⟩,_,rfl⟩
    rw[et,zaD,rW,zaJ,aoi,<-sB];generalize S1++Ce.aM (j7 ka kn (jw u Y kn))::K=S3 at *
    simp?[↓gt,gB,hz,zad]
   ·rintro r hr τ ⟨v,rfl⟩
    refine⟨[some (.int ka),some r.t],⟨_,rfl⟩,rfl,?_,λ_=>rfl⟩
    unfold fB.t;simp only[↓bp,bx,simprocAttr])
 have e9:(fG (gf u X)).take (O.map j6).length=fG (gf u X):=by rw[zad];exact zbl (by rw[tk,zad];exact zaf _)
 rw[e9];obtain⟨w3,w4,w5,w6,w7,w8,rfl⟩:∃w3 w4 w5 w6 w7 w8,w=[w3,w4,w5,w6,w7,w8]:=by
  match w,hw with
  |[w3,w4,w5,w6,w7,w8],_=>exact⟨_,_,_,_,_,_,rfl⟩
 refine⟨S++Ce.aM ((fG (gf u X)).map (jx X))::Ce.aM (O.map j6)::J,?_,P9,⟨_,rfl⟩⟩
 generalize S++Ce.aM ((fG (gf u X)).map (jx X))::Ce.aM (O.map j6)::J=S1
 simp only[↓bp,bx,simprocAttr]
theorem QK (n:Nat)(i:Int)(S:Cs):iY (n+1) [.int i,.int i] S = .ok (.bl true) S:=by
 unfold iY;simp only[↓bp,bx,simprocAttr]
theorem QL (n:Nat)(x:Str)(S:Cs):iY (n+1) [.str x,.str x] S = .ok (.bl true) S:=by
 unfold iY;simp?[ND]
theorem Vz (hf:∀t∈l,(∃i,t = .int i)\/∃x,t = .str x)(hl:l.length<=1000)(S:Cs):iY 2 [.tp l,.tp l] S = .ok (.bl true) S:=by
 have h:=λi=>QK 0 i S
 have h':=λx=>QL 0 x S
 have c1:(l.length<=sizeLine)=True:=bO (by omega)
 rw[iY];have ez:∀(τ:En) (fr:En->Cs->R (List Tr)),rT fr τ S=(fr τ S).az rS:=λ_ _=>rfl
 have ek:∀l m:List Tr,rS [.tp l,.tp m] S = .ok ⟨oW l m,λ_=>True⟩ S:=λ_ _=>rfl
 simp?[ez,ek,beq_self_eq_true,c1];generalize hZ:iN _ _ _ _ _ _=Z
 obtain⟨qz,S',⟨⟨x2,x3,rfl⟩,rfl⟩,rfl⟩:=gy hZ (λi τ S'=>(∃x2 x3,τ=[some (Tr.tp l),some (Tr.tp l),x2,x3])/\S'=S) (λ_ _ _ _=>trivial) ⟨⟨_,_,rfl⟩,rfl⟩ (by
  rintro i u τ S' hi ⟨⟨x2,x3,rfl⟩,rfl⟩
  obtain⟨u1,u2,h1,h2,rfl⟩:=pY hi;rw[h1] at h2;cases h2;have e1:iY 1 [u1,u1] S' = .ok (.bl true) S':=by
   rcases hf u1 (zaR h1) with⟨i,rfl⟩|⟨x,rfl⟩
   ·exact h i
   ·exact h' x
  exact⟨_,_,.inl (by simp?[e1];rfl),⟨_,_,rfl⟩,rfl⟩)
 simp only[↓bp,bx,simprocAttr]
theorem Ks (X:List fB)(p:Pt)(S:Cs):iY 2 [jx X p,jx X p] S = .ok (.bl true) S:=
 Vz (λt ht=>by
  simp only[zap,zaC,or_false] at ht;rcases ht with rfl|rfl|rfl|rfl|rfl|rfl|rfl
  ·exact .inl ⟨_,rfl⟩
  ·exact .inr ⟨_,rfl⟩
  ·exact .inl ⟨_,rfl⟩
  ·exact .inl ⟨_,rfl⟩
  ·exact .inl ⟨_,rfl⟩
  ·exact .inl ⟨_,rfl⟩
  ·exact .inr ⟨_,rfl⟩) (by simp) S
theorem VA:rS [.hd a,.hd b] S=ach [.hd a,.hd b] S:=rfl
theorem DK {X:List fB}{L:List Pt}{a b:Nat}{S:Cs}(ha:S[a]? = some (.aM (L.map (jx X))))(hb:S[b]? = some (.aM (L.map (jx X))))(hl:L.length<=2000):iY 3 [.hd a,.hd b] S = .ok (.bl true) S:=by
 have es:=λp S=>Ks X p S
 rw[iY];have c1:(L.length<=sizeLine)=True:=bO (by omega)
 simp?[ha,hb,NG,beq_self_eq_true,c1,NF,aiA,VA];generalize hZ:iN _ _ _ _ _ _=Z
 obtain⟨qz,S',⟨⟨x2,x3,rfl⟩,rfl⟩,rfl⟩:=gy hZ (λi τ S'=>(∃x2 x3,τ=[some (Tr.hd a),some (Tr.hd b),x2,x3])/\S'=S) (by rintro i τ S' ⟨_,rfl⟩;simp only[ha,hb,cu,and_self]) ⟨⟨_,_,rfl⟩,rfl⟩ (by
  rintro i u τ S' hi ⟨⟨x2,x3,rfl⟩,rfl⟩
  obtain⟨u1,u2,h1,h2,rfl⟩:=pY hi;rw[h1] at h2;cases h2;rw[zas] at h1;obtain⟨p,rfl⟩:∃p,u1=jx X p:=by
   cases e:L[i]? with
   |none=>rw[e] at h1;cases h1
   |some p=>rw[e] at h1;cases h1;exact⟨p,rfl⟩
  have e1:=es p S';generalize jx X p=rp at *
  exact⟨_,_,.inl (by simp?[e1];rfl),⟨_,_,rfl⟩,rfl⟩)
 simp only[↓bp,bx,simprocAttr]
theorem law (ns:List Int)(Jk:ns.length<=63):∃S,PR [.kl (ns.map .int)] [] = .ok (.bl true) S:=by
 obtain⟨c,e1,hD0⟩:=Vn ns Jk []
 have e1:De [.kl (ns.map .int)] [] = .ok (.hd 0) ([]++[c]):=e1
 have hD0:cH ([]++[c]) 0 0:=hD0
 generalize ([]:Cs)++[c]=S0 at *
 obtain⟨u,S1,dd,N,a,m,y,rs,e2,P⟩:=Qz hD0 (by decide)
 have e3:=aj4 P.gZ P.fN;have ha:=P.gZ.a;rw[P.a] at e3 ha;rw[P.fN] at e3;unfold mF at ha;have hrl:rs.length<=1000:=by have:=P.D.z.fN;have:=P.D.hn;rw[P.fN,zad] at *;omega
 obtain⟨X,S2,e4,D2,Js,c_⟩:=afe P.dr (by decide) rs hrl
 have hk:∀r∈X,Rk r:=λr hr=>P.rk r (Js r hr)
 have xl:X.length<=1000:=by omega
 obtain⟨S3,e5,c3,J3,hJ3⟩:=akc (u:=u) hk xl S2
 obtain⟨n4,S4,e6,c4,⟨J4,hJ4⟩,l4⟩:=Zg (u:=u) hk xl S3
 have c3':S4[S2.length]? = some (.aM ((fG (gf u X)).map (jx X))):=by rw[hJ4];exact pZ c3 _
 have tl:(fG (gf u X)).length<=2000:=by have:=(iw (gf u X)).2.2;rw[qv] at this;unfold fG;rw[zad];omega
 have e7:=DK c4 c3' tl;have e8:=Vy (l:=X) S4
 have lc:S2.length<S3.length:=bq c3
 have sA:n4≠S2.length:=by omega
 have c5:(S4.set n4 (.aM []))[S2.length]? = some (.aM ((fG (gf u X)).map (jx X))):=by rw[zay sA];exact c3'
 obtain⟨n6,S6,e9,c6,⟨J6,hJ6⟩,l6⟩:=Zg (u:=u) hk xl (S4.set n4 (.aM []))
 have c5':S6[S2.length]? = some (.aM ((fG (gf u X)).map (jx X))):=by rw[hJ6];exact pZ c5 _
 have e10:=DK c6 c5' tl;have gc:uy (.hd n4) [] S4 = .ok .bz (S4.set n4 (.aM [])):=by
  unfold uy;have:cu S4 n4=some ((fG (gf u X)).map (jx X)):=by unfold cu;rw[c4]
  simp only[this]
 have gk:DY S4 (.hd n4)=true:=by
  unfold DY xA;have:cu S4 n4=some ((fG (gf u X)).map (jx X)):=by unfold cu;rw[c4]
  simp only[this];rfl
 obtain⟨uT,QA⟩:∃uT,uT=u.t:=⟨_,rfl⟩
 rw[<-QA] at e2 e5 e6 e9;refine⟨S6,?_⟩
 unfold PR;generalize S4.set n4 (.aM [])=S5 at *
 simp?[fx,e1,e2,e3,e4,ha,e5,e6,e7,↓e8,↓gc,↓gk,e9,e10]
theorem zq1 {α:Type _}{P:List α -> Prop}(h:∀a,P [a]):∀us:List α,us.length=1->P us
 |[a],_=>h a
theorem zq2 {α:Type _}{P:List α -> Prop}(h:∀a b,P [a,b]):∀us:List α,us.length=2->P us
 |[a,b],_=>h a b
theorem zq3 {α:Type _}{P:List α -> Prop}(h:∀a b c,P [a,b,c]):∀us:List α,us.length=3->P us
 |[a,b,c],_=>h a b c
theorem VT {α:Type _}{P:List α -> Prop}(h:∀a b c d,P [a,b,c,d]):∀us:List α,us.length=4->P us
 |[a,b,c,d],_=>h a b c d
theorem DS {α:Type _}{P:List α -> Prop}(h:∀a b c d e,P [a,b,c,d,e]):∀us:List α,us.length=5->P us
 |[a,b,c,d,e],_=>h a b c d e
section
variable {K:W.Frag}{h:Heap}{mg:Str->Option Value}{C:Addr}{x bX:Str}{st:Stmt}{ps:List Str}{f:Addr}{oc:Value}{od an:Option Addr}{Ew:Array (Option Value)}{kV oN pm fF ct:Value}(X:K.In h)(G:h.Ns mainGlobals mg)
include X G in
theorem dmk (hb:∀(kV oN pm:Value) (an:Option Addr) (fF ct:Value) (us:List Value),us.length=ps.length->bindArgs (W.fnOf x x (eU st) (cV st) (ak st) .none kV oN pm an fF ct) ⟨us,[]⟩=pure (ps.zip us))(a:W.nsIn K mainGlobals x=some (some (.ref f)))(l:K.lookup f=some ⟨oc,od,.func (W.fnOf x x (eU st) (cV st) (ak st) .none kV oN pm an fF ct),Ew⟩)(c:W.codeIn K fF x=true)(k:W.keepIn K (.ref f)=true):nN K mg x st ps f (W.fnOf x x (eU st) (cV st) (ak st) .none kV oN pm an fF ct):=⟨zW l c k,W.mg_of X G a,(zW l c k).rD hb⟩
theorem mmk (hb:∀(kV oN pm:Value) (an:Option Addr) (fF ct:Value) (us:List Value),us.length=ps.length->bindArgs (W.fnOf x bX (eU st) (cV st) (ak st) .none kV oN pm an fF ct) ⟨us,[]⟩=pure (ps.zip us))(a:W.findIn K (.ref C) x=some (some (.ref f)))(i:W.isFn K (.ref f)=true)(l:K.lookup f=some ⟨oc,od,.func (W.fnOf x bX (eU st) (cV st) (ak st) .none kV oN pm an fF ct),Ew⟩)(c:W.codeIn K fF bX=true)(k:W.keepIn K (.ref f)=true):lW K C x bX st ps f (W.fnOf x bX (eU st) (cV st) (ak st) .none kV oN pm an fF ct):=⟨zW l c k,⟨a,i,k⟩,(zW l c k).rD hb⟩
end
theorem aok {l:W.OpenLaw}{w:World}{K:W.Frag}{h:Heap}{mg:Str->Option Value}{fa:Addr}(X:K.In h)(G:h.Ns mainGlobals mg)(hfa:mg "law"=some (.ref fa)){Ci Cj Ck Cm uL Cn yF yG yH yI yJ yK yL yM yN Co yO yP yQ JS Cp Cq Cr Ct Cu Cv Cw yR Fy yS Cy Cz JT JU JV JW JX yT yU JY JZ CA CB yV yW yX yY J0 yZ y9 y_ zc zd CD CF CG CH CI ze CJ CK CM CN CO CQ CS CT CU CV:Addr}{uM uN uO uP uQ uR uS uU uV uW uX uY uZ u5 u6 u9 u_ vc vd CW ve vf vg vh vj vm vn vo CY vp vq vz CZ C0 C1 C2 C3 vA vD C4 C5 vE vF vG vH vI vJ C6 vK vL vM vN vO vP vQ vR vS vU vV vW vX vY vZ v_ wc we wg wj oY:FuncData}{aO br:Addr}{lF jO AL ja jb lG nP jc jP lH nQ Hx lI jd jQ nR:Tok}(TF:TxF K mg (AdF.mk Ci Cj Ck Cm uL Cn yF yG yH yI yJ yK yL yM yN Co yO yP yQ JS Cp Cq Cr Ct Cu Cv Cw yR Fy yS Cy Cz JT JU JV JW JX yT yU JY JZ CA CB yV yW yX yY J0 yZ y9 y_ zc zd CD CF CG CH CI ze CJ CK CM CN CO CQ CS CT CU CV uM uN uO uP uQ uR uS uU uV uW uX uY uZ u5 u6 u9 u_ vc vd CW ve vf vg vh vj vm vn vo CY vp vq vz CZ C0 C1 C2 C3 vA vD C4 C5 vE vF vG vH vI vJ C6 vK vL vM vN vO vP vQ vR vS vU vV vW vX vY vZ v_ wc we wg wj oY aO br lF jO AL ja jb lG nP jc jP lH nQ Hx lI jd jQ nR))
  {aZ:Addr} {cdB:ClassData} {nmB qB:Str} {NB:Addr} {bsB aol:List Value} {TH:Bool} {snB:List Str} {abB:Bool} {aom:Option Bool} {ddB:Option Addr} {kaB kbB kcB kdB keB:Option Value} {aon:String} {Ku QM:Str} {QN bK bg:Addr} {Kv Gg:List Value} {Kw:List Str} {Ky:Bool} {Gh:Option Bool} {Kz:Option Addr} {KA KC KD KG KH:Option Value} {Gi lO:Option Addr} {Gj:Array (Option Value)} {Gk lP lQ lR jy lT:Value} {nH:Addr} {Gm:Value} {Gn:Option Addr} {KI:Nat} {Gp:Array (Option Value)} {jg:Tok}
  (aoo:W.nsIn K mainGlobals "BookError"=some (some (.ref aZ)))
  (aop:W.clsIn K aZ=some cdB)
  (aoq:W.typeIn K (.ref aZ)=some (.type "type"))
  (aor:W.specialIn K (.ref aZ) "__getattribute__"=some (some (.builtin "type.__getattribute__")))
  (aos:W.readsIn K aZ (.type "type")=true)
  (aot:W.findCls K (.ref aZ) (.type "type") "__init__"=some (.val (.builtin "ValueError.__init__")))
  (aou:W.tailIn K sP (.ref aZ::sP)=true)
  (aov:K.lookup aZ=some (excClassObj nmB qB aZ NB bsB sP TH snB aol abB aom ddB kaB kbB kcB kdB keB aon))
  (xgc:W.specialIn K (.builtin "object.__class__") "__get__"=some (some (.builtin "getset_descriptor.__get__")))
  (xtc:W.takesIn K (.builtin "object.__class__")=some true)
  (zx:W.nsIn K mainGlobals "NotLet"=some (some (.ref bK)))
  (KJ:K.lookup bK=some (excClassObj Ku QM bK QN Kv (.ref aZ::sP) true Kw Gg Ky Gh Kz KA KC KD KG KH "ValueError.__new__"))
  (KL:W.findIn K (.ref bK) "__init__"=some (some (.ref bg)))
  (KN:W.typeIn K (.ref bg)=some (.type "function"))
  (KO:W.keepIn K (.ref bK)=true)
  (KP:W.findIn K (.ref bK) "__setattr__"=some (some (.builtin "object.__setattr__")))
  (KQ:W.findIn K (.ref bK) "__getattribute__"=some (some (.builtin "BaseException.__getattribute__")))
  (KR:W.findIn K (.ref bK) "__getattr__"=some none)
  (KS:W.findIn K (.ref bK) "__class__"=some (some (.builtin "object.__class__")))
  (wN:W.findIn K (.ref bK) "rule"=some none)
  (rB:W.findIn K (.ref bK) "number"=some none)
  (KU:K.lookup bg=some ⟨Gk,Gi,.func (W.fnOf "__init__" "NotLet.__init__" (eU dQ) (cV dQ) (ak dQ) (.ref nH) lP lQ lR lO jy lT),Gj⟩)
  (KW:W.codeIn K jy "NotLet.__init__"=true)
  (zy:K.lookup nH=some ⟨Gm,Gn,.seq #[.int 0 jg] KI,Gp⟩)
  (KY:bK≠aZ)
  : ∃fd:FuncData,(∀(s:Shared) (v:Value),BindsTo s fd ⟨[v],[]⟩ [("_law_script",v)])/\∀base:Heap,K.In base->base.Ns mainGlobals mg->aQ l.prog w K mg base eF 11 fa fd ["_law_script"] (G_ K):=by
 have e:=hfa.symm.trans TF.OA.m;cases e;have DL:sQ K bK bg (.ref aZ::sP):=⟨⟨_,_,_,_,_,_,_,_,_,_,_,_,_,_,KJ⟩,aou,KL,KN,KO,KP,KQ,KR,KS,⟨_,rfl⟩⟩
 have KZ:fq K (W.fnOf "__init__" "NotLet.__init__" (eU dQ) (cV dQ) (ak dQ) (.ref nH) lP lQ lR lO jy lT) ["self","words","rule","number"] []:=λs us X' hl=>by
  rw[zaw] at hl ⊢
  match us,hl with|[_,_,_,_],_=>exact W.binds_K X' rfl zy rfl rfl rfl
 have Gq:fq K (W.fnOf "__init__" "NotLet.__init__" (eU dQ) (cV dQ) (ak dQ) (.ref nH) lP lQ lR lO jy lT) ["self","words","rule","number"] [.int 0 jg]:=λs us X' hl=>by
  have Jg:us.length=3:=by simpa using hl
  match us,Jg with|[_,_,_],_=>exact W.binds_K X' rfl zy rfl rfl rfl
 have aow:∀p∈([("NotLet",bK,bg)]:List (Str×Addr×Addr)),mg p.1=some (.ref p.2.1)/\sQ K p.2.1 p.2.2 (.ref aZ::sP):=by
  intro p hp;simp only[zap,zaC,or_false] at hp;rcases hp with rfl
  ·exact⟨W.mg_of X G zx,DL⟩
 let a:Ad:={ toAdF:=AdF.mk Ci Cj Ck Cm uL Cn yF yG yH yI yJ yK yL yM yN Co yO yP yQ JS Cp Cq Cr Ct Cu Cv Cw yR Fy yS Cy Cz JT JU JV JW JX yT yU JY JZ CA CB yV yW yX yY J0 yZ y9 y_ zc zd CD CF CG CH CI ze CJ CK CM CN CO CQ CS CT CU CV uM uN uO uP uQ uR uS uU uV uW uX uY uZ u5 u6 u9 u_ vc vd CW ve vf vg vh vj vm vn vo CY vp vq vz CZ C0 C1 C2 C3 vA vD C4 C5 vE vF vG vH vI vJ C6 vK vL vM vN vO vP vQ vR vS vU vV vW vX vY vZ v_ wc we wg wj oY aO br lF jO AL ja jb lG nP jc jP lH nQ Hx lI jd jQ nR,aZ:=aZ,bK:=bK,bg:=bg,eZ:=W.fnOf "__init__" "NotLet.__init__" (eU dQ) (cV dQ) (ak dQ) (.ref nH) lP lQ lR lO jy lT,jg:=jg}
 have T:Txt K mg a:={
  toTxF:=TF
  Er:=⟨W.mg_of X G aoo,⟨aor,aos,aot⟩,by show (W.clsIn K aZ).isSome=true;rw[aop];rfl,aoq,⟨_,_,_,_,_,_,_,_,_,_,_,_,_,_,_,_,aov⟩,⟨xgc,xtc⟩,aow⟩
  gz:=⟨DL,W.mg_of X G zx,KZ,⟨_,_,_,_,_,_,_,_,_,_,_,rfl,KU,KW⟩⟩
  zf:=Gq
  nv:=wN
  kI:=rB
  J8:=KY
 }
 obtain⟨_,_,_,_,_,_,_,_,_,ef,_⟩:=TF.OA.F.ex;exact⟨oY,λs v=>by rw[show oY=_ from ef];exact .of_eq rfl,λbase _ _=>aby (adB T) law⟩
theorem walk {l:W.OpenLaw}{q:Program}{yb:List Str}{XP:(Str->Option Value)->Heap->Prop}{YP:World->Heap->Prop}{d:DefRec}{K:Params->W.Frag}(hn:l.most=some 63)(hdf:d.params.defaults=[])
  (hY:∀(w:World) (h:Heap),YP w h->(K w.params).In h)
  (F:∀(w:World) (mg:Str->Option Value) (fa:Addr) (h:Heap),(K w.params).In h->h.Ns mainGlobals mg->mg d.name=some (.ref fa) ->
   ∃fd:FuncData,(∀(s:Shared) (u:Value),BindsTo s fd ⟨[u],[]⟩ [("_law_script",u)])/\∀base:Heap,(K w.params).In base->base.Ns mainGlobals mg->aQ l.prog w (K w.params) mg base eF 11 fa fd ["_law_script"] (G_ (K w.params))):
  W.WalkO q yb XP YP l.row.toRowW d [] (λf vs=>PySem.call f vs):=
 L2.RW (n:=63) (k:=11) (x:= "_law_script") (CX:=λ_=>eF) (sp:=λw=>G_ (K w.params)) hn (by decide) hdf ⟨rfl,by decide,by decide⟩ hY F (λ_ _ a ns hl _ hS=>⟨a,ns,rfl,hS,hl,λ_=>rfl⟩) λ_ _ _ _ _ z=>z
end My
structure PySem.W.Fast:Prop where(tw7712789534352139886 tw340281931998406031 tw9511233652947543503 tw6317346801348795190 tw950591233255939658 tw18206314784015523840 tw10467047803115299050 tw2590598654391258122 tw15659425176787006938 tw9227944910076735523 tw2259395066051255436 tw4111640063362595950 tw15750022585116132700 tw10434199181656190727 tw9026009164275128678 tw18101224726837561728 tw2331842137165520553 tw3413839588911205742 tw12118930759499004727 tw15957857889415964505 tw14750934409885987630 tw438159877867535350 tw10664274127698275988 tw7631370832156952459 tw5041729338985763192 tw15290647361872424680 tw2475790039150833617 tw10651860569508825175 tw16286233174860997922 tw1989372667042599689 tw9037596978314115197 tw16723019737419906179 tw5782996478828466261 tw7706527445570974642 tw17327985425158527485 tw14753977707431114204 tw10957315821078262262 tw8669089635049889565 tw1176682001896384615 tw14623960254625092909 tw2080088557758387199 tw496942925968569070 tw13011086639131158772 tw12782418229060877167 tw9463530772606529660 tw13572343948244273469 tw14317785473027503801 tw230372433202886413 tw10475517209070883311 tw9334023636879569490 tw352823684168935253 tw15768002085952082353 tw11593999610305086225 tw5417498766636951020 tw12732698883420895994 tw10564070078200510606 tw1404082139372834275 tw15815626696543384314 tw9065328018443111884 tw15082170493562758490 tw15355870847731440918 tw2098614580638579928 tw7837514080845994882 tw11604518953078593005 tw12257371186312566182 tw5409474722364261524 tw6394378702614645562 tw6100862347496753721 tw16492685566288539430 tw12819599849108927698 tw286899472405117428 tw464797508399427867 tw11904260825997463798 tw17297893697301573555 tw11395826329002977062 tw6433271482839670452 tw9943937257699319860 tw2932298286923550309 tw5089643027103704506 tw3682247538105509414 tw16822186669732657738 tw15261036722299459780 tw8619217684711912801 tw8884964616015398311 tw13577551565885378347 tw8321297053127915601 tw11846463540976511430 tw7271725625543207834 tw5627359239079476860 tw2036186172319677773 tw3313731367030871985 tw8824234011366466401 tw17049018346205254207 tw2470465705775360004 tw4955944279588875433 tw6507231841400464177 tw16155665478270846195 tw8175205890172561970 tw12263955470729725182 tw4389706796362121951 tw11336697980841854351 tw6016151102452210855 tw13651668121686636133 tw17516437075504977545 tw12030656789827836469 tw1528521978842889069 tw14370906870475378634 tw5520523363768489645 tw15344381062486850474 tw12212331690176244409 tw4974289103127566490 tw16136678046554428055 tw17610919627127264447 tw18365417167666543599 tw17388873662434174598 tw13967814447940096106 tw2497488277733756634 tw10895026148987442308 tw10749826414075414611 tw14633777798395915093 tw7363669986554862086 tw12940405210446137623 tw12881285178050006966 tw13470851639978743278 tw17316423013476208978 tw6373128931368799866 tw5802947218774517129 tw17162516876705513571 tw10661269041064158504 tw9777974164562610127 tw15779289527807354433 tw17925538272409067452 tw5657010979123290586 tw7259867392605872877 tw4967463288576621780 tw12542809010183372796 tw511463530566715951 tw16341286767425495718 tw4374890179639923050 tw9947888313282897040 tw12670967264606837747 tw1953613792966891931 tw18225880057705333083 tw14857526873567840014 tw7860950113867341796 tw12856118884786625160 tw7175913197516400642 tw3824843721081606670 tw10419300844327284133 tw7215343282137503023 tw15329245170725806606 tw18273467145974920696 tw3982181546439326190 tw3747173069621093807 tw4467992140509314482 tw5540227042812336277 tw18069452771558157937 tw2541676588251676687 tw5489767670242064863 tw7688856322672840821 tw15260117980892493003 tw5282363086041482362 tw10838732329891744258 tw11641877511855340339 tw3460398574191720976 tw5896891425532000989 tw11634306778459436444 tw18280203248859064697 tw7991927855148715403 tw2036098047794999131 tw17779053665813605263 tw10623139881183770778 tw11959267413056727705 tw3079502214384257879 tw12102267793593484897 tw7901959501162331042 tw13715988515012804156 tw179899985648209501 tw8604346053364967778 tw5679424827864178966 tw1121207865952769811 tw9585311127514524706 tw5510350468892501562 tw6870060000829335782 tw11975625935370937711 tw6918309764782964907 tw11340506200906762357 tw4125813054569649539 tw14303871481428659059 tw11055155610400320258 tw2607521015417471555 tw4638530633170925439 tw7842424266125802224 tw2046745151107098345 tw11929159850349485477 tw7877672659414108565 tw12142508621227033020 tw15646802404465212972 tw15206849724659207996 tw796071302271535323 tw9667292631870912573 tw11731541534381362339 tw451557224217658345 tw9510873199757947322 tw5135191528779680586 tw17654902137219057838 tw13298751878334227293 tw2324761859504629975 tw14522306449967561479 tw598407055326250622 tw2289088278530774828 tw2136641548724860244 tw11013693471275892840 tw6169397504584114318 tw8103945490031507264 tw6208296068991331448 tw5683805247183726845 tw3709119488161534163 tw12618805198482805981 tw2479096743553810938 tw12618348305155008801 tw16441226722234067959 tw16903099672017223759 tw6123665488779169274 tw4202479389193971992 tw398910750949657877 tw11203761804272323518 tw15965061206362124693 tw15575573320162900222 tw13179491620054715689 tw13809792350649621330 tw1556345226597441392 tw7437683833214654510 tw8274669652301813855 tw6949645836865915142 tw12448024540628073973 tw18064431087122018003 tw15811679621499349277 tw2886487364716061668 tw8437319225956841123 tw2975037055283095362 tw4312009487206948491 tw17827442163144901444 tw6025487444513772062 tw430216882408663508 tw8595994190318217102 tw14600120047466724119 tw2761640535211917822 tw4646033082451961818 tw18080974871616210708 tw15282823842566964429 tw4597021569774913870 tw14573340927916987050 tw17684172541045857636 tw4049811786027084811 tw11209400057998769055 tw14595507920814909269 tw18196181778705134694 tw14737565014000452750 tw12311659621820756883 tw10376251544772469089 tw7562311206010350348 tw3802280325124194188 tw2958272082220169037 tw18189009891113928011 tw2927708091774533975 tw3099255026860676163 tw1156609244038111762 tw13017328732927712955 tw10049434745243849626 tw12028213171404718576 tw8172104637591161397 tw17606605867264969739 tw7905880442258858521 tw10403904454256675201 tw17046612409594237614 tw11492996478847792083 tw5275076731186363112 tw8818493669841298965 tw16557019706305144671 tw13718277133819564580 tw16422245449614003604 tw9557349026672615786 tw9373478152118067115 tw15416223677734518948 tw3590301503237049961 tw10604377333694378602 tw4262263848139097873 tw2924125785725336002 tw10655958244065331749 tw4662329091822595380 tw3463797354740125942 tw8228580660814144689 tw8840108782679871577 tw9707151892679480580 tw10619656281819379193 tw9517297412657172656 tw15978621761276087044 tw7816159301595281773 tw7694577608224611172 tw2879140865032874110 tw2006467657717790242 tw4177785886670005648 tw13134652601368693245 tw7963990864680253946 tw1916377202756749432 tw5726489375495784444 tw7914441157970153576 tw4540769829719970091 tw5554028483717575794 tw9008531905912489245 tw6504887758730513328 tw12867947749332197132 tw13903251090839687488 tw8768758380552892846 tw11191955699867039731 tw1356327791899440576 tw973187308817419225 tw11066009073327014466 tw13626824827630118836 tw18295322000857132449 tw3486132690311315184 tw4225144890257435313 tw2247736544894983943 tw5034202788410916881 tw7465265919149119375 tw1791511625618994047 tw4197787711854471476 tw17366664095243624922 tw10864492340584532529 tw9075871167355621855 tw9683186363798673321 tw9618446973001042343 tw4968953192149506057 tw272780801413864338 tw16297250219955032530 tw11626894524666344296 tw9982076910181886280 tw11920456530247413519 tw5163056107526290667 tw12965623993396384224 tw2820844982770630448 tw9851302027220416943 tw13368078612196220781 tw2551248276665797779 tw1011694092296080568 tw7106517807754795197 tw3707210009016154376 tw11398195028732385115 tw16621799087760784826 tw15184678177196505176 tw12059080781885064836 tw721778185216552275 tw16483048789426828917 tw8383865998729247943 tw15370356875879826255 tw15867797204486538844 tw10129343028391978389 tw10566107870600646334 tw8010669121398223879 tw13176117777695108442 tw17379535377023413384 tw6802078470877202682 tw8406624711595164739 tw8018023868572401879 tw9695987651016316847 tw13388321117895060762 tw10058887909554570401 tw1146494630518484900 tw13580790051655181080 tw3065455196945935898 tw17418104995461127040 tw8877730816232034869 tw10880865601885339292 tw8417619875448984618 tw6858278596581550316 tw17224502100343646303 tw13469783420403229958 tw10213258975052558774 tw17512735635112056828 tw4198370207235156857 tw14914115569669514338 tw11882250004894659506 tw12994348368200909583 tw16387022584155481443 tw2384508083937310660 tw14512394840031823607 tw14902460007141221509 tw1138822696748236791 tw13455336101534951913 tw13217160295742583052 tw16348579956356385714 tw4074629761315607436 tw10897445071560453204 tw5259456492989393217 tw1963738743878927432 tw13093041151745764426 tw8520789039571944467 tw17379281335916738285 tw410105960297775573 tw15280097343780447448 tw18077188762022446355 tw10156160352973822242 tw14052860240156868680 tw5594341946775222472 tw2227953184863724251 tw11449707810919552431 tw6067063042641073676 tw13288995337356700948 tw5463008593111215885 tw8122869587294268260 tw893741359055807540 tw7941086474932426745 tw12132347872628577341 tw17501279776334934149 tw16334238113653312119 tw2311236278728035219 tw15034677681708177258 tw6878486656469533290 tw17927601259322788017 tw7173028617767765294 tw15223528925874333774 tw11748885732986321868 tw5152315756154014268 tw7383673262347187723 tw8211239187449088969 tw2857033596772475257 tw9002213505527129127 tw1381642994278486020 tw13143646671976431063 tw15479477858377133082 tw12234481362362348485 tw11590883556308278830 tw15487916784539568203 tw6299011695471596436 tw15897600562712249184 tw5843338358298511719 tw1487948227132916338 tw14635996560786931670 tw15223553541749606571 tw2822359122806873034 tw11640609769826553693 tw6111376906867149580 tw7401788773327623313 tw9113893171969743525 tw7037690129266325125 tw17404196607541633446 tw5696351657850089300 tw3989851465572190736 tw16825764491969930464 tw11834168278120769249 tw1308843690352324502 tw6735660535282877681 tw9679120171340807363 tw11211421835786715561 tw15327340206050032916 tw6256661313263251878 tw2178619147680152290 tw9158905826271251982 tw3650445850603834330 tw885986814775224074 tw8922380812210674735 tw15610558042895101304 tw11880954408032071836:True)
open PySem PySem.W PyProof.Rows
set_option maxRecDepth 100000 in
set_option maxHeartbeats 0 in
theorem PySem.Challenge.cw_inningsbook_k40_batters_holds : PySem.Challenge.rw_inningsbook_k40_batters.Holds := by
  w_on; o_law; k_head; (case hw => w_witness2)
  k_fill
  refine My.walk (l := PySem.Challenge.rw_inningsbook_k40_batters) rfl rfl (fun w h Y => PySem.W.kIn_of Y) ?F
  case F =>
    intro w mg fa h KX G hmg
    refine' My.aok KX G hmg ⟨PySem.W.mg_none_of KX G ?_, PySem.W.mg_none_of KX G ?_, PySem.W.mg_none_of KX G ?_, PySem.W.mg_none_of KX G ?_, PySem.W.mg_none_of KX G ?_, PySem.W.mg_none_of KX G ?_, PySem.W.mg_none_of KX G ?_, PySem.W.mg_none_of KX G ?_, PySem.W.mg_none_of KX G ?_, PySem.W.mg_none_of KX G ?_, PySem.W.mg_none_of KX G ?_, PySem.W.mg_none_of KX G ?_, PySem.W.mg_of KX G ?_, PySem.W.mg_of KX G ?_, PySem.W.mg_of KX G ?_, PySem.W.mg_of KX G ?_, PySem.W.mg_of KX G ?_, PySem.W.mg_of KX G ?_, PySem.W.mg_of KX G ?_, PySem.W.mg_of KX G ?_, PySem.W.mg_of KX G ?_, PySem.W.mg_of KX G ?_, PySem.W.mg_of KX G ?_, PySem.W.mg_of KX G ?_, PySem.W.mg_of KX G ?_, PySem.W.mg_of KX G ?_, PySem.W.mg_of KX G ?_, PySem.W.mg_of KX G ?_, My.dmk KX G (fun _ _ _ _ _ _ => My.zq1 (fun _ => rfl)) ?_ ?_ ?_ ?_, My.dmk KX G (fun _ _ _ _ _ _ => My.zq2 (fun _ _ => rfl)) ?_ ?_ ?_ ?_, My.dmk KX G (fun _ _ _ _ _ _ => My.zq1 (fun _ => rfl)) ?_ ?_ ?_ ?_, My.dmk KX G (fun _ _ _ _ _ _ => My.zq2 (fun _ _ => rfl)) ?_ ?_ ?_ ?_, My.mmk (fun _ _ _ _ _ _ => My.zq3 (fun _ _ _ => rfl)) ?_ ?_ ?_ ?_ ?_, My.dmk KX G (fun _ _ _ _ _ _ => My.zq2 (fun _ _ => rfl)) ?_ ?_ ?_ ?_, My.mmk (fun _ _ _ _ _ _ => My.zq1 (fun _ => rfl)) ?_ ?_ ?_ ?_ ?_, My.mmk (fun _ _ _ _ _ _ => My.zq1 (fun _ => rfl)) ?_ ?_ ?_ ?_ ?_, My.mmk (fun _ _ _ _ _ _ => My.zq2 (fun _ _ => rfl)) ?_ ?_ ?_ ?_ ?_, My.mmk (fun _ _ _ _ _ _ => My.zq2 (fun _ _ => rfl)) ?_ ?_ ?_ ?_ ?_, My.mmk (fun _ _ _ _ _ _ => My.zq1 (fun _ => rfl)) ?_ ?_ ?_ ?_ ?_, My.mmk (fun _ _ _ _ _ _ => My.zq1 (fun _ => rfl)) ?_ ?_ ?_ ?_ ?_, My.mmk (fun _ _ _ _ _ _ => My.zq2 (fun _ _ => rfl)) ?_ ?_ ?_ ?_ ?_, My.mmk (fun _ _ _ _ _ _ => My.zq2 (fun _ _ => rfl)) ?_ ?_ ?_ ?_ ?_, My.mmk (fun _ _ _ _ _ _ => My.zq2 (fun _ _ => rfl)) ?_ ?_ ?_ ?_ ?_, My.dmk KX G (fun _ _ _ _ _ _ => My.zq2 (fun _ _ => rfl)) ?_ ?_ ?_ ?_, My.mmk (fun _ _ _ _ _ _ => My.zq3 (fun _ _ _ => rfl)) ?_ ?_ ?_ ?_ ?_, My.mmk (fun _ _ _ _ _ _ => My.zq1 (fun _ => rfl)) ?_ ?_ ?_ ?_ ?_, My.mmk (fun _ _ _ _ _ _ => My.zq1 (fun _ => rfl)) ?_ ?_ ?_ ?_ ?_, My.mmk (fun _ _ _ _ _ _ => My.zq1 (fun _ => rfl)) ?_ ?_ ?_ ?_ ?_, My.dmk KX G (fun _ _ _ _ _ _ => My.zq2 (fun _ _ => rfl)) ?_ ?_ ?_ ?_, My.dmk KX G (fun _ _ _ _ _ _ => My.VT (fun _ _ _ _ => rfl)) ?_ ?_ ?_ ?_, My.dmk KX G (fun _ _ _ _ _ _ => My.zq1 (fun _ => rfl)) ?_ ?_ ?_ ?_, My.dmk KX G (fun _ _ _ _ _ _ => My.zq2 (fun _ _ => rfl)) ?_ ?_ ?_ ?_, My.dmk KX G (fun _ _ _ _ _ _ => My.zq3 (fun _ _ _ => rfl)) ?_ ?_ ?_ ?_, My.dmk KX G (fun _ _ _ _ _ _ => My.VT (fun _ _ _ _ => rfl)) ?_ ?_ ?_ ?_, My.dmk KX G (fun _ _ _ _ _ _ => My.DS (fun _ _ _ _ _ => rfl)) ?_ ?_ ?_ ?_, My.mmk (fun _ _ _ _ _ _ => My.zq2 (fun _ _ => rfl)) ?_ ?_ ?_ ?_ ?_, My.mmk (fun _ _ _ _ _ _ => My.DS (fun _ _ _ _ _ => rfl)) ?_ ?_ ?_ ?_ ?_, My.mmk (fun _ _ _ _ _ _ => My.zq2 (fun _ _ => rfl)) ?_ ?_ ?_ ?_ ?_, My.dmk KX G (fun _ _ _ _ _ _ => My.zq3 (fun _ _ _ => rfl)) ?_ ?_ ?_ ?_, My.dmk KX G (fun _ _ _ _ _ _ => My.zq2 (fun _ _ => rfl)) ?_ ?_ ?_ ?_, My.mmk (fun _ _ _ _ _ _ => My.zq2 (fun _ _ => rfl)) ?_ ?_ ?_ ?_ ?_, My.mmk (fun _ _ _ _ _ _ => My.zq1 (fun _ => rfl)) ?_ ?_ ?_ ?_ ?_, My.mmk (fun _ _ _ _ _ _ => My.zq2 (fun _ _ => rfl)) ?_ ?_ ?_ ?_ ?_, My.mmk (fun _ _ _ _ _ _ => My.zq3 (fun _ _ _ => rfl)) ?_ ?_ ?_ ?_ ?_, My.mmk (fun _ _ _ _ _ _ => My.zq2 (fun _ _ => rfl)) ?_ ?_ ?_ ?_ ?_, My.mmk (fun _ _ _ _ _ _ => My.zq3 (fun _ _ _ => rfl)) ?_ ?_ ?_ ?_ ?_, My.mmk (fun _ _ _ _ _ _ => My.zq2 (fun _ _ => rfl)) ?_ ?_ ?_ ?_ ?_, My.mmk (fun _ _ _ _ _ _ => My.zq2 (fun _ _ => rfl)) ?_ ?_ ?_ ?_ ?_, My.mmk (fun _ _ _ _ _ _ => My.zq2 (fun _ _ => rfl)) ?_ ?_ ?_ ?_ ?_, My.dmk KX G (fun _ _ _ _ _ _ => My.zq3 (fun _ _ _ => rfl)) ?_ ?_ ?_ ?_, My.dmk KX G (fun _ _ _ _ _ _ => My.zq3 (fun _ _ _ => rfl)) ?_ ?_ ?_ ?_, My.mmk (fun _ _ _ _ _ _ => My.zq3 (fun _ _ _ => rfl)) ?_ ?_ ?_ ?_ ?_, My.mmk (fun _ _ _ _ _ _ => My.zq3 (fun _ _ _ => rfl)) ?_ ?_ ?_ ?_ ?_, My.mmk (fun _ _ _ _ _ _ => My.zq1 (fun _ => rfl)) ?_ ?_ ?_ ?_ ?_, My.mmk (fun _ _ _ _ _ _ => My.zq2 (fun _ _ => rfl)) ?_ ?_ ?_ ?_ ?_, My.mmk (fun _ _ _ _ _ _ => My.zq2 (fun _ _ => rfl)) ?_ ?_ ?_ ?_ ?_, My.mmk (fun _ _ _ _ _ _ => My.zq2 (fun _ _ => rfl)) ?_ ?_ ?_ ?_ ?_, My.mmk (fun _ _ _ _ _ _ => My.zq2 (fun _ _ => rfl)) ?_ ?_ ?_ ?_ ?_, My.mmk (fun _ _ _ _ _ _ => My.zq1 (fun _ => rfl)) ?_ ?_ ?_ ?_ ?_, My.mmk (fun _ _ _ _ _ _ => My.zq1 (fun _ => rfl)) ?_ ?_ ?_ ?_ ?_, My.mmk (fun _ _ _ _ _ _ => My.zq1 (fun _ => rfl)) ?_ ?_ ?_ ?_ ?_, My.dmk KX G (fun _ _ _ _ _ _ => My.zq2 (fun _ _ => rfl)) ?_ ?_ ?_ ?_, My.dmk KX G (fun _ _ _ _ _ _ => My.zq2 (fun _ _ => rfl)) ?_ ?_ ?_ ?_, My.dmk KX G (fun _ _ _ _ _ _ => My.zq2 (fun _ _ => rfl)) ?_ ?_ ?_ ?_, My.dmk KX G (fun _ _ _ _ _ _ => My.zq1 (fun _ => rfl)) ?_ ?_ ?_ ?_, My.dmk KX G (fun _ _ _ _ _ _ => My.zq2 (fun _ _ => rfl)) ?_ ?_ ?_ ?_, My.mmk (fun _ _ _ _ _ _ => My.zq1 (fun _ => rfl)) ?_ ?_ ?_ ?_ ?_, My.dmk KX G (fun _ _ _ _ _ _ => My.zq1 (fun _ => rfl)) ?_ ?_ ?_ ?_, My.dmk KX G (fun _ _ _ _ _ _ => My.zq2 (fun _ _ => rfl)) ?_ ?_ ?_ ?_, My.dmk KX G (fun _ _ _ _ _ _ => My.zq2 (fun _ _ => rfl)) ?_ ?_ ?_ ?_, My.dmk KX G (fun _ _ _ _ _ _ => My.zq2 (fun _ _ => rfl)) ?_ ?_ ?_ ?_, My.dmk KX G (fun _ _ _ _ _ _ => My.zq2 (fun _ _ => rfl)) ?_ ?_ ?_ ?_, My.dmk KX G (fun _ _ _ _ _ _ => My.zq2 (fun _ _ => rfl)) ?_ ?_ ?_ ?_, My.dmk KX G (fun _ _ _ _ _ _ => My.zq1 (fun _ => rfl)) ?_ ?_ ?_ ?_, My.dmk KX G (fun _ _ _ _ _ _ => My.zq2 (fun _ _ => rfl)) ?_ ?_ ?_ ?_, My.dmk KX G (fun _ _ _ _ _ _ => My.zq2 (fun _ _ => rfl)) ?_ ?_ ?_ ?_, My.dmk KX G (fun _ _ _ _ _ _ => My.zq1 (fun _ => rfl)) ?_ ?_ ?_ ?_, ⟨PySem.W.mg_of KX G ?_, ⟨?_, ?_, ?_, ?_⟩, ⟨?_, ?_, ?_, ?_⟩⟩, ?_, ?_, ?_, ?_, ?_, ?_, ?_, ?_, ?_, ?_, ?_, ?_, ⟨PySem.W.mg_of KX G ?_, ⟨?_, ?_, ?_, ?_⟩, ⟨?_, ?_, ?_, ?_⟩⟩, ?_, ?_, ?_, ?_, ?_, ?_, ?_⟩ ?_ ?_ ?_ ?_ ?_ ?_ ?aou ?_ ?_ ?_ ?_ ?_ ?_ ?_ ?_ ?_ ?_ ?_ ?_ ?_ ?_ ?_ ?_ ?_ ?KY
    any_goals first | k_is | (dsimp only[L2.cD]; k_is)
    any_goals first | k_is | (dsimp only[L2.cD]; k_is)
    (case aou => kernel_rfl)
    (case KY => decide)
