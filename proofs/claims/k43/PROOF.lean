import PyProof.Rows.All
import Wide.All
import OpenK.AllK
import Wide.FinOn
import Lean
import PyProof.EqAt
import PyProof.EqKinds
import PyProof.TupleCall
import PyProof.ExcInit
import PyProof.ExcClass3
import OpenK.KOwn
import PyProof.ExcAttrAll.ValueError
import OpenK.KDescr
import KE.KIsNot
import PyProof.NeKinds
import PyProof.Draws
import PyProof.EnumMake
import PyProof.ZipIter
import KE.KListMore
import PyProof.Rows.FStr
import PyProof.FString
import PyProof.Rows.CallKw2
import PyProof.StrLawsTight
import PyProof.CompUse
import PyProof.CompFree
import PyProof.RaisesMany
import PyProof.NsDelKeeps
import PyProof.RulesAs
import PyProof.MaxThree
import PyProof.Rows.SumAny
import PyProof.Rows.StrJoin2
import KE.KRevIter
import PyProof.AutoRange
import PyProof.FactsAll.range_2
import PyProof.Rows.FactsT2
import PyProof.Rows.SortShell
import PyProof.Rows.SortWalk
import PyProof.DictIter
import PyProof.DictWalks
import KE.KDictLaws
import KE.KDictOf
import PyProof.AttrMissSeq
import KE.KIntText
import PyProof.Rows.SetFrom
import PyProof.Rows.SortRuns
import PyProof.Rows.SortStr
import PySem.Challenge.RW_inningsbook_k43_pairs
set_option bootstrap.genMatcherCode false
set_option compiler.extract_closed false
set_option genSizeOf false
set_option Elab.async false
set_option linter.all false
set_option maxRecDepth 100000
set_option maxHeartbeats 4000000
set_option genInjectivity false
open PySem renaming wpAny_bind->zaa,wpAny_pure->zad,wpAny_field->zax,wpAny_holding->zaD,boot_len->zaL,wpAny_callSpecial?_slot->zaN,wpAny_newObj_type->zaO,wpAny_mono->zaQ,wpAny_call_entry->zaY,mem_of_lookup->zba,wpAny_truthy_bool->zbb,wpAny_seqItems->zbl,wpAny_setField_rec->zbD,wpAny_loadPart_at->zbK,wpAny_typeNameOfWhole_keyiter->zbM,wpAny_setField->zbO,wpAny_passesOwn->zbX,wpAny_standAt->zcc,wpAny_pyIter_list->zce,plainObj_wpAny_Assign_Attribute->zcq,wpAny_execs_nil->zct,wpAny_Call_Name_kw->zcu,tupleKind_room_in1->zcw,wpAny_isSubtype_exc->zcI,codeAny_mono->zcM,wpAny_typeOf->zcO,wpAny_rule->zcU,call_meets->zcV,wpAny_onRaise->zcZ,wpAny_attempt->zda,wpAny_call->zdi,wpAny_updateSeq_pair->zdl,codeAny_builtin->zdn,sizeLine_eq->zdy,wpAny_dictEntries->zdN,wpAny_execs_cons->zdS,wpAny_lookBehind->zdT,pastItsLine_dict->zdU,wpAny_isInstance->zdZ,wpAny_specialOf->zeg,wpAny_dictEpoch->zej,wpAny_letGo->zeq,wpAny_loadPart->zeu,wpAny_listPart->zev,isSubtype_stop->zew
open PySem.Heap renaming get?_push_of_some->zab,lt_size->zam,get?_push_size->zan,get?_update_other->zaz,get?_update_self->zaU,size_push->zbN
open List renaming getElem?_eq_getElem->zac,getElem?_eq_some_iff->zae,length_map->zaf,getElem?_append_left->zaj,length_append->zak,size_toArray->zal,mem_cons->zap,getElem?_map->zar,getElem?_append_right->zat,map_cons->zau,length_cons->zav,append_nil->zaw,replicate_succ->zay,getElem?_set_ne->zaA,length_take->zaB,not_mem_nil->zaC,getElem?_cons_succ->zaE,map_append->zaF,all_cons->zaG,getElem?_set_self->zaH,map_nil->zaI,mem_append_right->zaJ,all_eq_true->zaM,mem_cons_of_mem->zaP,mem_of_getElem?->zaR,lookup_cons->zaT,eq_nil_or_concat->zaV,getElem?_cons_zero->zaW,nil_append->zaX,length_nil->zbe,foldl_cons->zbn,length_singleton->zbo,take_length->zbr,mem_singleton->zbs,all_nil->zbt,mem_flatMap->zbu,take_of_length_le->zby,map_map->zbz,getElem_mem->zbA,contains_cons->zbC,nodup_cons->zbF,getElem?_take_of_lt->zbG,append_assoc->zbJ,cons_append->zbP,mem_cons_self->zbR,zip_cons_cons->zbV,mem_append->zbW,concat_eq_append->zcb,flatten_cons->zcf,mem_append_left->zcg,mem_iff_getElem->zch,mem_range->zci,length_drop->zck,filter_cons->zcn,replicate_zero->zcp,any_cons->zcs,find?_cons->zcv,nodup_append->zcC,filterMap_cons->zcG,map_congr_left->zcJ,length_zip->zcK,drop_eq_getElem_cons->zcL,any_map->zcS,mem_map->zcT,getElem?_replicate->zcX,set_comm->zcY,getElem_zip->zdb,any_eq_true->zdc,set_append_right->zdf,length_set->zdk,getLast?_concat->zdp,getElem?_range->zdt,filter_eq_self->zdu,set_cons_succ->zdF,getD_eq_getElem?_getD->zdI,flatMap_cons->zdO,set_set->zea,of_mem_zip->zef,drop_eq_nil_of_le->zer,take_succ->zeB,mem_of_mem_take->zeG,mem_of_mem_drop->zeH,any_nil->zeW
open Bool renaming false_ne_true->zag,eq_iff_iff->zaK,and_self->zbi,false_eq_true->zbp,and_eq_true_iff->zbw,and_eq_true->zcl,true_and->zcF,or_true->zcQ,false_and->zdv,or_eq_true->zei,or_false->zeJ
open Nat renaming le_refl->zah,le_trans->zai,lt_of_lt_of_le->zao,ne_of_lt->zaq,le_add_right->zaZ,lt_irrefl->zbc,lt_succ_self->zbh,le_succ->zbk,ne_of_gt->zbS,lt_of_le_of_lt->zbT,zero_le->zcA,zero_add->zcP,le_of_lt->zdg,min_eq_left->zdo,lt_trans->zdV,sub_self->zeX
open Option.some renaming inj->zas,injEq->zbL
open PyProof.Rows renaming boot_list->zaS,boot_tuple->zbx,boot_int->zbE,slot_tuple_getitem->zcr,callWith_type1->zcE,assignInOrder_cons->zdz,boot_sum->zez,boot_str->zeA
open PySem.W renaming kia_one->zbd,looks_clsIn->zcH,callWith_K->zcN,methodCall_KW->zdd,looks_findIn->zdh,plainGet_of->zds,cellsFrom_some->zem,tail_of_in->zeS,set_plain->zfb,kitx_list->zfd,kitx_dict->zfe
open Int renaming eq_ofNat_of_zero_le->zbf,toNat_natCast->zbm,emod_lt_of_pos->zbU,natCast_add->zbZ,natCast_one->zca,emod_nonneg->zcy
open PySem.F renaming plainAttrs_list->zbg,slot_dict_keyiterator_next->zbv,slot_list_append->zbH,type_list_append->zbI,slot_tuple_iterator_next->zcd,slot_zip_next->zcx,slot_list_getattribute->zcR,slot_dict_get->zde,args_dict_keyiterator_next_1->zdm,entry_dict_keyiterator_next->zdq,args_tuple_iterator_next_1->zdw,entry_tuple_iterator_next->zdE,args_zip_next_1->zdM,args_tuple_add_2->zdW,entry_zip_next->zdY,args_dict_get_3->zeb,entry_tuple_add->zec,entry_dict_get->zen,slot_tuple_add->zeo
open Ne renaming symm->zbj
open PySem.Obj renaming data_mapFields->zbq,isFreed_of_fields->zcD
open PySem.W.Looks renaming here->zbB
open Option renaming map_eq_some_iff->zbQ,map_some->zbY,isSome_iff_exists->zcj,bind_some->zcm,isNone_none->zdB,isSome_map->zdK,isNone_iff_eq_none->zdR,getD_none->zdX,isSome_some->zeP
open PySem.Heap.SameBut renaming update->zco
open PySem.PassesOwn renaming never->zcz
open PySem.Calls renaming callWith_builtin->zcB,evalArgs_plain->zdj,spliced_cons->zdA,Name_function_global->zdG
open Eq renaming symm->zcW
open Array renaming length_toList->zdr,getElem?_eq_some_iff->zdH,size_append->zdL,getElem?_eq_getElem->zdQ
open Sum.inr renaming inj->zdx
open PySem.W.KFB renaming if_not->zdC
open PySem.SeqAt.EqAt renaming same->zeh,int_str->zeL,str_int->zeM,of_refs->zeU
namespace L2
open PySem PySem.Spec PyProof.Rows
theorem _root_.jp{p q:Prop}(a:p)(b:q):p∧q:=⟨a,b⟩
noncomputable abbrev dz:=Sum Int Str
noncomputable def lV:dz->Value->Bool
 |.inl k,v=>Value.isInt k v
 |.inr x,v=>Value.isStrOf x v
noncomputable def aj6 (w:World):dz->Int
 |.inl k=>hashInt k
 |.inr x=>hashStr w x
theorem cU:∀{k:dz} {v:Value},lV k v=true->(∃i t,k=Sum.inl i/\v=Value.int i t)\/(∃x t,k=Sum.inr x/\v=Value.str x t)
 |.inl i,v,h=>by
  obtain⟨t,e⟩:=Value.isInt_shape (k:=i) (v:=v) h
  exact .inl ⟨i,t,rfl,e⟩
 |.inr x,v,h=>by
  obtain⟨t,e⟩:=Value.isStrOf_shape (x:=x) (v:=v) h
  exact .inr ⟨x,t,rfl,e⟩
theorem HH (i:Int)(t:Tok):lV (.inl i) (.int i t)=true:=by simp[lV,Value.isInt]
theorem HJ (x:Str)(t:Tok):lV (.inr x) (.str x t)=true:=by simp[lV,Value.isStrOf]
theorem Yd (a b:Int):decide ((Sum.inl a:dz)=Sum.inl b)=(a == b):=by
 by_cases e:a=b
 ·subst e;simp
 ·have h:¬ (Sum.inl a:dz)=Sum.inl b:=λq=>e (Sum.inl.inj q)
  rw[decide_eq_false h];exact (beq_eq_false_iff_ne.mpr e).symm
theorem Ye (a b:Str):decide ((Sum.inr a:dz)=Sum.inr b)=decide (a=b):=by
 by_cases e:a=b
 ·subst e;simp
 ·have h:¬ (Sum.inr a:dz)=Sum.inr b:=λq=>e (zdx q)
  rw[decide_eq_false h,decide_eq_false e]
theorem Yg (a:Int)(b:Str):decide ((Sum.inl a:dz)=Sum.inr b)=false:=decide_eq_false (λq=>nomatch q)
theorem Yh (a:Str)(b:Int):decide ((Sum.inr a:dz)=Sum.inl b)=false:=decide_eq_false (λq=>nomatch q)
noncomputable def bS (prog:Program)(w:World):PySem.KeyKind prog w dz where
 is:=lV
 hash:=aj6 w
 inj:=λv a b ha hb=>by
  rcases cU ha with⟨i,t,rfl,rfl⟩|⟨x,t,rfl,rfl⟩
  ·rcases cU hb with⟨j,u,rfl,e⟩|⟨y,u,rfl,e⟩
   ·injection e with e1 _;rw[e1]
   ·exact nomatch e
  ·rcases cU hb with⟨j,u,rfl,e⟩|⟨y,u,rfl,e⟩
   ·exact nomatch e
   ·injection e with e1 _;rw[e1]
 byValue:=λk v h=>by
  rcases cU h with⟨i,t,rfl,rfl⟩|⟨x,t,rfl,rfl⟩<;>rfl
 pyHash:=λhv h=>by
  rcases cU hv with⟨i,t,rfl,rfl⟩|⟨x,t,rfl,rfl⟩
  ·exact wpAny_pyHash_int h
  ·exact wpAny_pyHash_str h
 eqBool:=λhu hv h=>by
  rcases cU hu with⟨i,t,rfl,rfl⟩|⟨x,t,rfl,rfl⟩
  ·rcases cU hv with⟨j,u,rfl,rfl⟩|⟨y,u,rfl,rfl⟩
   ·rw[Yd] at h;exact wpAny_eqBool_int h
   ·rw[Yg] at h;exact zeL i t y u _ _ _ _ h
  ·rcases cU hv with⟨j,u,rfl,rfl⟩|⟨y,u,rfl,rfl⟩
   ·rw[Yh] at h;exact zeM x t j u _ _ _ _ h
   ·rw[Ye] at h;exact wpAny_eqBool_str h
 «strs»:= λk x t v h=>by
  rcases cU h with⟨i,u,rfl,e⟩|⟨y,u,rfl,e⟩
  ·exact nomatch e
  ·injection e with e1 _
   subst e1;cases v<;>rfl
theorem AA (prog:Program)(w:World)(i:Int)(t:Tok):(bS prog w).is (.inl i) (.int i t)=true:=HH i t
theorem AB (prog:Program)(w:World)(x:Str)(t:Tok):(bS prog w).is (.inr x) (.str x t)=true:=HJ x t
set_option genInjectivity true in
inductive V where
 |bw|bl (b:Bool)|int (i:Int)|str (x:Str)|J5 (b:Array UInt8)|Yi (b:UInt64)|ref (a:Addr)|ty (n:String)
 deriving DecidableEq
noncomputable def bG:V->Value->Prop
 |.bw,u=>u=Value.none
 |.bl b,u=>u=Value.bool b
 |.int i,u=>∃t,u=Value.int i t
 |.str x,u=>∃t,u=Value.str x t
 |.J5 b,u=>∃t,u=Value.bytes b t
 |.Yi b,u=>∃t,u=Value.float b t
 |.ref a,u=>u=Value.ref a
 |.ty n,u=>u=Value.type n
noncomputable abbrev bz:List V->List Value->Prop:=Paired bG
theorem bz.length (r:bz xs us):xs.length=us.length:=Paired.length r
theorem bz.get:∀{xs:List V} {us:List Value} {i:Nat} {x:V},bz xs us->xs[i]? = some x->∃u,us[i]? = some u/\bG x u
 |_,_,_,_,.nil,e=>by simp at e
 |_,_,0,_,.cons r _,e=>by simp at e;subst e;exact⟨_,rfl,r⟩
 |_,_,i+1,x,.cons _ t,e=>by
  obtain⟨u,h1,h2⟩:=bz.get (i:=i) (x:=x) t (by simpa using e)
  exact⟨u,by simpa using h1,h2⟩
theorem bz.set (r:bG x u):∀{xs:List V} {us:List Value} (i:Nat),bz xs us->bz (xs.set i x) (us.set i u)
 |_,_,_,.nil=>.nil
 |_,_,0,.cons _ t=>.cons r t
 |_,_,i+1,.cons q t=>.cons q (bz.set r i t)
theorem bz.i9:∀{xs ys:List V} {us ws:List Value},bz xs us->bz ys ws->bz (xs++ys) (us++ws)
 |_,_,_,_,.nil,s=>s
 |_,_,_,_,.cons r t,s=>.cons r (bz.i9 t s)
theorem bz.take:∀{xs:List V} {us:List Value} (n:Nat),bz xs us->bz (xs.take n) (us.take n)
 |_,_,0,_=>.nil
 |_,_,_+1,.nil=>.nil
 |_,_,n+1,.cons r t=>.cons r (bz.take n t)
theorem bz.drop:∀{xs:List V} {us:List Value} (n:Nat),bz xs us->bz (xs.drop n) (us.drop n)
 |_,_,0,r=>r
 |_,_,_+1,.nil=>.nil
 |_,_,n+1,.cons _ t=>bz.drop n t
noncomputable def i_:Option V->Option Value->Prop
 |some v,some u=>bG v u
 |none,none=>True
 |_,_=>False
noncomputable def KV {κ:Type}:List (κ × V)->List (κ × Value)->Prop:=Paired λ(p:κ × V) (q:κ × Value)=>p.1=q.1/\bG p.2 q.2
noncomputable def kV:dz->V
 |.inl i=>.int i
 |.inr x=>.str x
inductive HO where
 /-- a list -/
 |aV (xs:List V)
 /-- a fD (never ajf) -/
 |gp (xs:List V)
 /-- a dict aeG qb are ints and aeH;v_ aeG qb are tuples of ints and aeH (wW empty v_ is ape) -/
 |dK (aJ:List (dz×V))|dT (aJ:List (List dz×V))
 /-- a set of ints:aH ajg,aH size -/
 |set (S:Int->Bool) (n:Nat)
 /-- an instance of wW class at C,aH dict at dx,aH Yj -/
 |fE (C dx:Addr) (fs:List (Str×V))
 /-- wW dict of wW instance at x -/
 |sD (x:Addr)
 /-- wW dict of an ad8 -/
 |xd (fs:List (Str×V))
 /-- a anB aj7,f of x -/
 |met (f x:Addr)
 /-- a range Kp lo,lo+1,.. anC hi -/
 |rng (lo hi:Int)
 /-- a aeI apf is anD to wW Kp (wW Kq;a dict while a Qc anE it):apg,never ajh while it is so -/
 |p_ (o:Obj) (u:HO)
 /-- a aph aeJ table -/
 |Yk (ps:Array Value)
 /-- any Fw aeI,by aka is true of aH v_ Kp (a def of anF sD:api a S n:=HO.ext fun h=>..) -/
 |ext (φ:Heap->Prop)
noncomputable abbrev Hp:=Addr->Option HO
noncomputable def br (H:Hp)(a:Addr)(o:HO):Hp:=λb=>if b=a then some o else H b
theorem av:br H a o a=some o:=by unfold br;rw[if_pos rfl]
theorem aq (h:b≠a):br H a o b=H b:=by unfold br;rw[if_neg h]
theorem Fx:br (br H a o) a u=br H a u:=by
 funext b;unfold br;split<;>rfl
theorem aeK {H:Hp}{a b:Addr}{o u:HO}(h:H a=some o)(h':H b=some u)(d:o≠u):a≠b:=by
 intro e;subst e;rw[h] at h';exact d (zas h')
theorem fF {H:Hp}{a b:Addr}{o:HO}(h:H a=some o)(h':H b=none):a≠b:=by
 intro e;subst e;rw[h] at h';cases h'
section
variable (P:Program)(w:World)
noncomputable def bY (H:Hp)(h:Heap)(a:Addr):HO->Prop
 |.aV xs=>xs.length<=sizeLine/\∃(aH:List Value) (n:Nat),bz xs aH/\h.get? a=some { cls:=.type "list",data:=.seq aH.toArray n}
 |.gp xs=>xs.length<=sizeLine/\∃aH:List Value,bz xs aH/\IsTup h a aH.toArray
 |.dK aJ=>aJ.length<=sizeLine/\(a == sysModules)=false/\∃vs,KV aJ vs/\h.DictOf (bS P w) a vs
 |.dT aJ=>aJ.length<=sizeLine/\(a == sysModules)=false/\∃xs:List (List dz×Addr×Value),
   Paired (λ(p:List dz×V) (q:List dz×Addr×Value)=>p.1=q.1/\H q.2.1=some (.gp (p.1.map kV))/\bG p.2 q.2.2) aJ xs /\
   ∃o es ep,h.get? a=some o/\o.ExactDict/\o.data = .dict es ep/\es.toList=xs.map (entryOfKey (tupleKind (bS P w)))/\(xs.map (·.1)).Nodup
 |.set S n=>h.SetOf (intKind P w) a S n
 |.fE C dx fs=>H dx=some (.sD a)/\fs.length<=1000/\dx≠a/\h.get? a=some (PySem.W.instObj C dx) /\
   ∃mA,h.Ns1 dx mA/\(∀f,i_ (fs.lookup f) (mA f))/\PySem.Within mA (fs.map (·.1))
 |.sD _=>∃o,h.get? a=some o
 |.xd fs=>∃mA,h.Ns1 a mA/\∀f,i_ (fs.lookup f) (mA f)
 |.rng lo hi=>∃t u v,h.get? a=some { cls:=.type "range",data:=.fields #[.int lo t,.int hi u,.int 1 v]}
 |.p_ o u=>h.get? a=some o/\bY H h a u
 |.Yk ps=>h.get? a=some {cls:=.none,data:=.fields ps}
 |.met f x=>h.get? a=some (PySem.W.methodObj (.ref f) (.ref x))
 |.ext φ=>φ h/\(∃o,h.get? a=some o)/\∀h1 h2:Heap,φ h1->(∀o,h1.get? a=some o->h2.get? a=some o) -> φ h2
noncomputable def nI (H:Hp)(h:Heap):Prop:=∀a o,H a=some o->bY P w H h a o
end
theorem bY.lt (x:bY P w H h a o):a<h.objs.size:=by
 cases o with
 |aV xs=>obtain⟨_,_,_,_,e⟩:=x;exact zam e
 |gp xs=>obtain⟨_,_,_,p⟩:=x;exact p.lt
 |dK aJ=>obtain⟨_,_,_,_,o,_,_,e,_⟩:=x;exact zam e
 |dT aJ=>obtain⟨_,_,_,_,o,_,_,e,_⟩:=x;exact zam e
 |set S n=>obtain⟨o,_,_,_,e,_⟩:=x;exact zam e
 |fE C dx fs=>obtain⟨_,_,_,e,_⟩:=x;exact zam e
 |sD y=>obtain⟨_,e⟩:=x;exact zam e
 |xd fs=>obtain⟨_,⟨_,_,_,e,_⟩,_⟩:=x;exact zam e
 |rng lo hi=>obtain⟨_,_,_,e⟩:=x;exact zam e
 |p_ ob u=>obtain⟨e,_⟩:=x;exact zam e
 |Yk ps=>exact zam (show h.get? a=some _ from x)
 |met f y=>exact zam (show h.get? a=some _ from x)
 |ext φ=>obtain⟨_,⟨_,e⟩,_⟩:=x;exact zam e
theorem Paired.Yl {α β:Type}{F G:α -> β -> Prop}:∀{aeL:List α} {aeM:List β},Paired F aeL aeM->(∀a b,F a b->G a b)->Paired G aeL aeM
 |_,_,.nil,_=>.nil
 |_,_,.cons r t,f=>.cons (f _ _ r) (Paired.Yl t f)
theorem bY.rB (x:bY P w H h a o)(k:∀b u,(b=a\/H b=some (.sD a))->h.get? b=some u->h'.get? b=some u)
  (ho:∀b,H b=some (.sD a)->H' b=some (.sD a)) (ht:∀b xs,H b=some (.gp xs)->H' b=some (.gp xs)):bY P w H' h' a o:=by
 induction o with
 |aV xs=>obtain⟨z,aH,n,r,e⟩:=x;exact⟨z,aH,n,r,k _ _ (.inl rfl) e⟩
 |gp xs=>obtain⟨z,aH,r,ob,e,c⟩:=x;exact⟨z,aH,r,ob,k _ _ (.inl rfl) e,c⟩
 |dK aJ=>obtain⟨z,y,vs,r,ob,es,ep,e,c⟩:=x;exact⟨z,y,vs,r,ob,es,ep,k _ _ (.inl rfl) e,c⟩
 |dT aJ =>
  obtain⟨z,y,xs,r,ob,es,ep,e,c⟩:=x;exact⟨z,y,xs,Paired.Yl r λp q z=>⟨z.1,ht _ _ z.2.1,z.2.2⟩,ob,es,ep,k _ _ (.inl rfl) e,c⟩
 |set S n=>obtain⟨ob,es,ep,t,e,c⟩:=x;exact⟨ob,es,ep,t,k _ _ (.inl rfl) e,c⟩
 |fE C dx fs =>
  obtain⟨d,z,ne,e,mA,⟨od,es,ep,e2,c⟩,r⟩:=x
  exact⟨ho _ d,z,ne,k _ _ (.inl rfl) e,mA,⟨od,es,ep,k _ _ (.inr d) e2,c⟩,r⟩
 |sD y=>obtain⟨ob,e⟩:=x;exact⟨ob,k _ _ (.inl rfl) e⟩
 |xd fs=>obtain⟨mA,⟨od,es,ep,e,c⟩,r⟩:=x;exact⟨mA,⟨od,es,ep,k _ _ (.inl rfl) e,c⟩,r⟩
 |rng lo hi=>obtain⟨t,u,v,e⟩:=x;exact⟨t,u,v,k _ _ (.inl rfl) e⟩
 |p_ ob u ih=>obtain⟨e,q⟩:=x;exact⟨k _ _ (.inl rfl) e,ih q⟩
 |Yk ps =>
  have e:h.get? a=some {cls:=.none,data:=.fields ps}:=x
  show h'.get? a=some {cls:=.none,data:=.fields ps}
  exact k a _ (.inl rfl) e
 |met f y =>
  have e:h.get? a=some (PySem.W.methodObj (.ref f) (.ref y)):=x
  show h'.get? a=some (PySem.W.methodObj (.ref f) (.ref y))
  exact k a _ (.inl rfl) e
 |ext φ=>obtain⟨p,⟨o,e⟩,st⟩:=x;exact⟨st _ _ p λo q=>k _ _ (.inl rfl) q,⟨o,k _ _ (.inl rfl) e⟩,st⟩
theorem nI.lt (x:nI P w H h)(e:H a=some o):a<h.objs.size:=(x a o e).lt
theorem nI.fresh (x:nI P w H h)(e:h.objs.size<=a):H a=none:=by
 cases q:H a with
 |none=>rfl
 |some u=>exact absurd (zao (x.lt q) e) (zbc _)
theorem nI.gz (x:nI P w H h)(k:∀b u,h.get? b=some u->h'.get? b=some u):nI P w H h':=λa o e =>
 (x a o e).rB (λb u _ q=>k b u q) (λ_ q=>q) λ_ _ q=>q
theorem nI.ju (x:nI P w H h)(k:∀b u,h.get? b=some u->h'.get? b=some u)(hp:h.objs.size<=a)(new:bY P w (br H a o) h' a o):nI P w (br H a o) h':=λb u e=>by
 have hn:=x.fresh hp;by_cases hb:b=a
 ·subst hb;rw[av] at e;cases e;exact new
 ·rw[aq hb] at e
  exact (x b u e).rB (λc v _ q=>k c v q) (λc q=>by rw[aq (fF q hn)];exact q) λc xs q=>by rw[aq (fF q hn)];exact q
noncomputable def Rd (H:Hp)(a:Addr)(u:HO):Prop:=H a=some u\/∃o,H a=some (.p_ o u)
theorem Rd.ok (r:Rd H a u)(x:nI P w H h):bY P w H h a u:=by
 rcases r with r|⟨o,r⟩
 ·exact x a u r
 ·obtain⟨_,q⟩:=x a _ r
  exact q
noncomputable def Mut:Option HO->Prop
 |some (.aV _)=>True
 |some (.dK _)=>True
 |some (.dT _)=>True
 |some (.set _ _)=>True
 |some (.fE _ _ _)=>True
 |some (.ext _)=>True
 |_=>False
theorem nI.jy (ok:nI P w H h)(mu:Mut (H x))(he:e=x\/H e=some (.sD x))(k:∀b u,b≠e->h.get? b=some u->h'.get? b=some u)(heo:∃u,h'.get? e=some u)
  (new:bY P w (br H x o') h' x o'):nI P w (br H x o') h':=λb u q=>by
 have aeN:∀c y,H c=some (.sD y)->c≠x:=λc y r z=>by subst z;rw[r] at mu;exact mu
 have akb:∀c xs,H c=some (.gp xs)->c≠x:=λc xs r z=>by subst z;rw[r] at mu;exact mu
 by_cases hb:b=x
 ·subst hb;rw[av] at q;cases q;exact new
 ·rw[aq hb] at q
  by_cases Ym:b=e
  ·have q':H b=some (.sD x):=by
    rcases he with z|z
    ·exact absurd (Ym.trans z) hb
    ·rw[Ym];exact z
   rw[q] at q';cases q'
   obtain⟨v,hv⟩:=heo;exact⟨v,by rw[Ym];exact hv⟩
  ·refine (ok b u q).rB (λc v hc r=>k c v ?_ r) (λc r=>by rw[aq (aeN c b r)];exact r) λc xs r=>by rw[aq (akb c xs r)];exact r
   rcases hc with rfl|hc
   ·exact Ym
   ·rintro rfl
    rcases he with z|z
    ·exact aeN c b hc z
    ·rw[hc] at z;cases z;exact hb rfl
structure Un (fs ex:List Addr) (H H':Hp) (h h':Heap):Prop where
 keep:∀b o,h.get? b=some o->H b=none->b∉fs->b∉ex->h'.get? b=some o
 slot:∀b o,h.get? b=some o->H b=none->b∈fs->b∉ex->∃sl,h'.get? b=some {o with slots:=sl}
 free:∀b o,h.get? b=some o->H b=none->b∉ex->H' b=none
 there:∀b o,h.get? b=some o->b∉ex->∃o',h'.get? b=some o'
 wc:∀b xs,H b=some (.gp xs)->H' b=some (.gp xs)
 sE:∀b o u,H b=some (.p_ o u)->H' b=some (.p_ o u)
 we:∀b ps,H b=some (.Yk ps)->∃iu,H' b=some (.Yk (ps++iu))
theorem Un.any (u:Un fs ex H H1 h h1)(q:h.get? b=some ob)(n:H b=none)(hx:b∉ex):∃sl,h1.get? b=some {ob with slots:=sl}:=by
 by_cases hb:b∈fs
 ·exact u.slot b ob q n hb hx
 ·exact⟨ob.slots,u.keep b ob q n hb hx⟩
theorem Un.gz (k:∀b u,h.get? b=some u->h'.get? b=some u):Un fs ex H H h h':=
 ⟨λb ob q _ _ _=>k b ob q,λb ob q _ _ _=>⟨ob.slots,k b ob q⟩,λ_ _ _ n _=>n,λb ob q _=>⟨ob,k b ob q⟩,λ_ _ q=>q,λ_ _ _ q=>q,λ_ ps q=>⟨#[],by rw[q];simp⟩⟩
theorem Un.refl:Un fs ex H H h h:=Un.gz λ_ _ q=>q
theorem Un.ju (k:∀b u,h.get? b=some u->h'.get? b=some u)(hp:h.objs.size<=a)(hn:H a=none):Un fs ex H (br H a o) h h' where
 keep:=λb u q _ _ _=>k b u q
 slot:=λb u q _ _ _=>⟨u.slots,k b u q⟩
 free:=λb u q n _=>by rw[aq (zaq (zao (zam q) hp))];exact n
 there:=λb u q _=>⟨u,k b u q⟩
 wc:=λb xs q=>by rw[aq (fF q hn)];exact q
 sE:=λb u xs q=>by rw[aq (fF q hn)];exact q
 we:=λb ps q=>⟨#[],by rw[aq (fF q hn),q];simp⟩
theorem Un.jy (mu:Mut (H x))(he:e=x\/H e=some (.sD x))(k:∀b u,b≠e->h.get? b=some u->h'.get? b=some u)(heo:∃u,h'.get? e=some u):Un fs ex H (br H x o) h h':=by
 have hx:∀b,H b=none->b≠x:=λb n z=>by subst z;rw[n] at mu;exact mu
 have hb:∀b,H b=none->b≠e:=λb n z=>by
  subst z;rcases he with r|r
  ·exact hx b n r
  ·rw[n] at r;cases r
 have hm:∀b u,H b=some u->¬ Mut (some u)->b≠x:=λb u q nm z=>by subst z;rw[q] at mu;exact nm mu
 refine⟨λb u q n _ _=>k b u (hb b n) q,λb u q n _ _=>⟨u.slots,k b u (hb b n) q⟩,λb u q n _=>by rw[aq (hx b n)];exact n,λb u q _=>?_,
  λb xs q=>by rw[aq (hm b _ q λz=>z)];exact q,λb u xs q=>by rw[aq (hm b _ q λz=>z)];exact q,λb ps q=>⟨#[],by rw[aq (hm b _ q λz=>z),q];simp⟩⟩
 by_cases Ym:b=e
 ·subst Ym;exact heo
 ·exact⟨u,k b u Ym q⟩
noncomputable def trk (h:Heap)(H:Hp):List Addr:=(List.range h.objs.size).filter λa=>(H a).isSome
noncomputable def yM (h:Heap)(H:Hp):Heap:=PySem.W.hideAll h (trk h H)
theorem HK (h:Heap)(H:Hp):(yM h H).objs.size=h.objs.size:=PySem.W.hideAll_size _ _
theorem Kr (e:h.get? b=some o)(n:H b=none):(yM h H).get? b=some o:=
 PySem.W.hideAll_get _ e λhm=>by
  have q:(H b).isSome=true:=(List.mem_filter.mp hm).2
  rw[n] at q;simp at q
theorem Qd (e:(yM h H).get? b=some o):h.get? b=some o/\H b=none:=by
 have e':h.get? b=some o:=PySem.W.of_hideAll (trk h H) e
 refine⟨e',?_⟩
 cases q:H b with
 |none=>rfl
 |some x =>
  have hm:b∈trk h H:=List.mem_filter.mpr ⟨zci.mpr (zam e'),by simp[q]⟩
  have z:(yM h H).get? b=none:=PySem.W.hideAll_none (trk h H) hm
  rw[z] at e;cases e
structure Mod (K:PySem.W.Frag) (mg:Str->Option Value) (base:Heap):Prop where
 Yn:K.In base
 sF:base.Ns mainGlobals mg
 UG:∃mb,base.Ns builtinsNs mb/\∀x:Str,x ≠ "__name__" -> mb x=bootBuiltins x
 nolimit:base.NoLimit
structure Cx where
 prog:Program
 w:World
 K:PySem.W.Frag
 mg:Str->Option Value
 base:Heap
 A:Around
 N:List Str
 s₀:Shared
 H₀:Hp
 env:Env
 outer:List Env
 cY:List Env
 ex:List Addr
 fn:Str->Bool
 fM:Bool
 pn:List (Addr×Obj)
 xe:Value->Shared->Prop
noncomputable def rT (l:List Env):List Addr:=l.filterMap (·.frame)
noncomputable abbrev Cx.fs (X:Cx):List Addr:=rT X.outer
noncomputable def Vis (sc:Scope)(x:Str):Prop:=sc.names.lookup x=some .local\/sc.names.lookup x=some .cell\/sc.names.lookup x=some .free
noncomputable def UH (sc:Scope)(x:Str):Prop:=sc.names.lookup x=some .local\/sc.names.lookup x=some .cell
noncomputable def akc (env:Env)(h:Heap)(m:Str->Option Value)(x:Str)(u:Value):Prop:=
 (env.kindOf x=some .local/\m x=some u)\/((env.kindOf x=some .cell\/env.kindOf x=some .free)/\∃c,env.cells.lookup x=some c/\h.IsCell c (some u))
structure Cx.Ok (X:Cx):Prop where
 sG:Mod X.K X.mg X.base
 kind:X.env.scope.kind = .function
 sF:X.env.globals=mainGlobals
 UG:X.env.builtins=builtinsNs
 above:X.s₀.heap.objs.size<=X.env.locals
 inj:∀x y c,X.env.cells.lookup x=some c->X.env.cells.lookup y=some c->x=y
 has:∀x,(X.env.kindOf x=some .cell\/X.env.kindOf x=some .free)->∃c,X.env.cells.lookup x=some c
 Yo:∀x c,X.fn x=true->X.env.cells.lookup x=some c->X.s₀.heap.objs.size<=c
 hd:X.fM=true->X.A.handled=none
 frames:X.A.frames=some X.cY
 stk:X.cY=X.outer\/(X.cY=X.env::X.outer/\X.env.frame=some X.env.locals)
 exf:∀b∈X.ex,b≠X.env.locals/\∀x c,X.env.cells.lookup x=some c->c≠b
 bs:∀b o,X.base.get? b=some o->X.s₀.heap.get? b=some o/\X.H₀ b=none
 PU:X.base.objs.size<=X.s₀.heap.objs.size
 jv:∀b o,X.base.get? b=some o->b∉X.ex
 C_:∀b∈X.ex,b∉X.fs
 lN:X.s₀.heap.FunFrames X.base X.outer
 Ks:∀b∈X.fs,X.H₀ b=none
structure aI (X:Cx) (ah:List (Addr×Obj)) (σ:List (Option V)) (H:Hp) (s:Shared):Prop where
 ok:X.Ok
 os:s.os=X.s₀.os
 iR:AllBare s.gens
 base:Un X.fs X.ex X.H₀ H X.s₀.heap s.heap
 AD:∃m,s.heap.Ns X.env.locals m/\∀(i:Nat) (x:Str) (v:V),X.N[i]? = some x -> σ[i]? = some (some v)->Vis X.env.scope x->∃u,bG v u/\akc X.env s.heap m x u
 cell:∀x c,X.env.cells.lookup x=some c->∃v,s.heap.IsCell c v
 free:H X.env.locals=none
 lB:∀x c,X.env.cells.lookup x=some c->H c=none
 CU:∀p∈X.pn++ah,s.heap.get? p.1=some p.2/\H p.1=none/\p.1≠X.env.locals/\p.1∉X.fs/\∀v,p.2.data ≠ .cell v
 cg:nI X.prog X.w H s.heap
 len:σ.length=X.N.length
section
variable {X:Cx}{ah:List (Addr×Obj)}{σ:List (Option V)}{H H':Hp}{s:Shared}{h':Heap}
theorem Cx.Ok.akd (ok:X.Ok)(e:X.base.get? b=some o):b∉X.fs:=λhb=>by
 have:=(ok.lN.mem hb).1
 rw[e] at this;cases this
theorem aI.bs (I:aI X ah σ H s):∀b o,X.base.get? b=some o->s.heap.get? b=some o/\H b=none:=λb o e =>
 ⟨I.base.keep b o (I.ok.bs b o e).1 (I.ok.bs b o e).2 (I.ok.akd e) (I.ok.jv b o e),I.base.free b o (I.ok.bs b o e).1 (I.ok.bs b o e).2 (I.ok.jv b o e)⟩
theorem aI.bk (I:aI X ah σ H s):∀b o,X.base.get? b=some o->s.heap.get? b=some o:=λb o e=>(I.bs b o e).1
theorem aI.sG (I:aI X ah σ H s):Mod X.K X.mg X.base:=I.ok.sG
theorem aI.kj (I:aI X ah σ H s):X.K.In s.heap:=I.ok.sG.Yn.keeps I.bk
theorem aI.lt (I:aI X ah σ H s):X.env.locals<s.heap.objs.size:=let ⟨_,hn,_⟩:=I.AD;hn.lt
theorem aI.sz (I:aI X ah σ H s):X.s₀.heap.objs.size<=s.heap.objs.size:=zai I.ok.above (zdg I.lt)
theorem aI.ake (I:aI X ah σ H s)(h:s.heap.objs.size<=a):a∉X.fs:=λhb=>by
 obtain⟨_,o,ho,_⟩:=I.ok.lN.mem hb;exact absurd (zao (zam ho) (zai I.sz h)) (zbc _)
theorem aI.Yp (I:aI X ah σ H s):∀x c,X.env.cells.lookup x=some c->c≠X.env.locals:=λx c e z=>by
 obtain⟨v,o,ho,hd⟩:=I.cell x c e;obtain⟨m,⟨o',es,ep,rC,UI,_⟩,_⟩:=I.AD
 rw[z,rC] at ho;cases ho;rw[UI] at hd;cases hd
theorem aI.lN (I:aI X ah σ H s):s.heap.FunFrames X.base X.outer:=by
 have all:∀(l:List Env),(∀b∈rT l,b∈X.fs)->X.s₀.heap.FunFrames X.base l->s.heap.FunFrames X.base l:=by
  intro l;induction l with
  |nil=>intro _ _;trivial
  |cons env r ih =>
   intro hs hl;obtain⟨hk,⟨L,o,hf,hn,ho,hd⟩,hr⟩:=hl
   have hL:L∈X.fs:=hs L (by unfold rT;rw[zcG,hf];exact zbR)
   obtain⟨sl,e⟩:=I.base.slot L o ho (I.ok.Ks L hL) hL λz=>I.ok.C_ L z hL
   exact⟨hk,⟨L,_,hf,hn,e,hd⟩,ih (λb hb=>hs b (by unfold rT;rw[zcG,hf];exact zaP _ hb)) hr⟩
 exact all X.outer (λ_ hb=>hb) I.ok.lN
theorem aI.cY (I:aI X ah σ H s):s.heap.FunFrames X.base X.cY:=by
 rcases I.ok.stk with e|⟨e,hf⟩
 ·rw[e];exact I.lN
 ·rw[e]
  obtain⟨m,hn,_⟩:=I.AD;refine .cons (by rw[I.ok.kind];decide) hf hn ?_ I.lN
  exact Heap.get?_none_of_le (zai I.ok.PU I.ok.above)
theorem aI.Dc (I:aI X ah σ H s):∀b∈rT X.cY,b∈X.env.locals::X.fs:=λb hb=>by
 rcases I.ok.stk with e|⟨e,hf⟩
 ·rw[e] at hb;exact zaP _ hb
 ·rw[e] at hb
  unfold rT at hb;rw[zcG,hf] at hb;exact hb
theorem aI.Fy (I:aI X ah σ H s):∀b∈rT X.cY,H b=none:=λb hb=>by
 rcases zap.mp (I.Dc b hb) with e|hb
 ·rw[e];exact I.free
 ·obtain⟨_,o,ho,_⟩:=I.ok.lN.mem hb
  exact I.base.free b o ho (I.ok.Ks b hb) λz=>I.ok.C_ b z hb
theorem aI.qc {g':Array GenState}{t':Nat}{d':Drawn}{ch:List Addr}(I:aI X ah σ H s)
  (PV:∀b∈ch,(b∈X.ex\/X.s₀.heap.objs.size<=b)/\b≠X.env.locals/\(∀x c,X.env.cells.lookup x=some c->c≠b)/\∀p∈X.pn++ah,p.1≠b)
  (keep:∀b o,b≠X.env.locals->b∉X.fs->b∉ch->s.heap.get? b=some o->H b=none->h'.get? b=some o)
  (slot:∀b o,b≠X.env.locals->b∈X.fs->b∉ch->s.heap.get? b=some o->H b=none->∃sl,h'.get? b=some {o with slots:=sl}) (free:∀b o,b∉ch->s.heap.get? b=some o->H b=none->H' b=none)
  (there:∀b o,b∉ch->s.heap.get? b=some o->∃o',h'.get? b=some o')
  (wc:∀b xs,H b=some (.gp xs)->H' b=some (.gp xs)) (sE:∀b o u,H b=some (.p_ o u)->H' b=some (.p_ o u)) (we:∀b ps,H b=some (.Yk ps)->∃iu,H' b=some (.Yk (ps++iu)))
  (ns:∀m,s.heap.Ns X.env.locals m->h'.Ns X.env.locals m) (cg:nI X.prog X.w H' h') (hg:AllBare g'):
  aI X ah σ H' {s with heap:=h',gens:=g',drawn:=d',toks:=t' }:=by
 have neL:∀b o,X.s₀.heap.get? b=some o->b≠X.env.locals:=λb o e=>zaq (zao (zam e) I.ok.above)
 have neC:∀b o,X.s₀.heap.get? b=some o->b∉X.ex->b∉ch:=λb o e hx hb=>by
  rcases (PV b hb).1 with z|z
  ·exact hx z
  ·exact absurd (zao (zam e) z) (zbc _)
 have UJ:∀x c,X.env.cells.lookup x=some c->∀v,s.heap.IsCell c v->h'.IsCell c v:=λx c e v ⟨o,ho,hd⟩=>by
  have nch:c∉ch:=λz=>(PV c z).2.2.1 x c e rfl
  by_cases hc:c∈X.fs
  ·obtain⟨sl,q⟩:=slot c o (I.Yp x c e) hc nch ho (I.lB x c e)
   exact⟨_,q,hd⟩
  ·exact⟨o,keep c o (I.Yp x c e) hc nch ho (I.lB x c e),hd⟩
 refine⟨I.ok,I.os,hg,⟨λb o e n hb hx=>?_,λb o e n hb hx=>?_,λb o e n hx=>?_,λb o e hx=>?_,λb xs e=>wc b xs (I.base.wc b xs e),λb o xs e=>sE b o xs (I.base.sE b o xs e),λb ps e=>?_⟩,?_,λx c e=>?_,?_,λx c e=>?_,λp hp=>?_,cg,I.len⟩
 ·exact keep b o (neL b o e) hb (neC b o e hx) (I.base.keep b o e n hb hx) (I.base.free b o e n hx)
 ·obtain⟨sl,e1⟩:=I.base.slot b o e n hb hx
  obtain⟨sl',e2⟩:=slot b _ (neL b o e) hb (neC b o e hx) e1 (I.base.free b o e n hx)
  exact⟨sl',e2⟩
 ·obtain⟨o',e1⟩:=I.base.there b o e hx
  exact free b o' (neC b o e hx) e1 (I.base.free b o e n hx)
 ·obtain⟨o',e1⟩:=I.base.there b o e hx
  exact there b o' (neC b o e hx) e1
 ·obtain⟨m1,e1⟩:=I.base.we b ps e
  obtain⟨m2,e2⟩:=we b _ e1;exact⟨m1++m2,by rw[e2,Array.append_assoc]⟩
 ·obtain⟨m,hn,hl⟩:=I.AD
  refine⟨m,ns m hn,λi x v e1 e2 e3=>?_⟩
  obtain⟨u,r,l⟩:=hl i x v e1 e2 e3;refine⟨u,r,?_⟩
  rcases l with l|⟨k,c,e,z⟩
  ·exact .inl l
  ·exact .inr ⟨k,c,e,UJ x c e _ z⟩
 ·obtain⟨v,z⟩:=I.cell x c e
  exact⟨v,UJ x c e v z⟩
 ·obtain⟨m,⟨o,_,_,ho,_⟩,_⟩:=I.AD
  exact free _ o (λz=>(PV _ z).2.1 rfl) ho I.free
 ·obtain⟨v,o,ho,hd⟩:=I.cell x c e
  exact free c o (λz=>(PV c z).2.2.1 x c e rfl) ho (I.lB x c e)
 ·obtain⟨e,n,ne,nf,d⟩:=I.CU p hp
  have nch:p.1∉ch:=λz=>(PV p.1 z).2.2.2 p hp rfl
  exact⟨keep p.1 p.2 ne nf nch e n,free p.1 p.2 nch e n,ne,nf,d⟩
theorem aI.un {t':Nat}(I:aI X ah σ H s)(u:Un X.fs [] H H' s.heap h')(cg:nI X.prog X.w H' h'):aI X ah σ H' {s with heap:=h',toks:=t' }:=by
 obtain⟨m,⟨o,es,ep,ho,r⟩,_⟩:=id I.AD
 obtain⟨sl,hL⟩:=u.any ho I.free (by simp)
 exact I.qc (g':=s.gens) (d':=s.drawn) (ch:=[]) (λ_ z=>nomatch z) (λb o _ hb _ e n=>u.keep b o e n hb (by simp)) (λb o _ hb _ e n=>u.slot b o e n hb (by simp)) (λb o _ e n=>u.free b o e n (by simp)) (λb o _ e=>u.there b o e (by simp)) u.wc u.sE u.we (λm' hm=>by
  obtain⟨o',es',ep',rC,r'⟩:=hm;rw[ho] at rC;cases rC
  exact⟨_,es',ep',hL,r'⟩) cg I.iR
theorem aI.call {g':Array GenState}{t':Nat}{d':Drawn}{ch:List Addr}(I:aI X ah σ H s)(u:Un (rT X.cY) ch H H' s.heap h')(cg:nI X.prog X.w H' h')(hg:AllBare g')
  (PV:∀b∈ch,(b∈X.ex\/X.s₀.heap.objs.size<=b)/\b≠X.env.locals/\(∀x c,X.env.cells.lookup x=some c->c≠b)/\∀p∈X.pn++ah,p.1≠b):
  aI X ah σ H' {s with heap:=h',gens:=g',drawn:=d',toks:=t' }:=by
 obtain⟨m,⟨o,es,ep,ho,r⟩,_⟩:=id I.AD
 obtain⟨sl,hL⟩:=u.any ho I.free λz=>(PV _ z).2.1 rfl
 exact I.qc (ch:=ch) PV (λb o hL hb hc e n=>u.keep b o e n (λz=>(zap.mp (I.Dc b z)).elim hL hb) hc) (λb o _ _ hc e n=>u.any e n hc) (λb o hc e n=>u.free b o e n hc) (λb o hc e=>u.there b o e hc) u.wc u.sE u.we (λm' hm=>by
  obtain⟨o',es',ep',rC,r'⟩:=hm;rw[ho] at rC;cases rC
  exact⟨_,es',ep',hL,r'⟩) cg hg
theorem aI.nU {t':Nat}{it:Addr}(I:aI X ah σ H s)(k:∀b o,b≠it->s.heap.get? b=some o->h'.get? b=some o)(hn:H it=none)(hL:it≠X.env.locals)
  (h1:it∈X.ex\/X.s₀.heap.objs.size<=it) (h2:∀x c,X.env.cells.lookup x=some c->c≠it) (h3:∀p∈X.pn++ah,p.1≠it):aI X ah σ H {s with heap:=h',toks:=t' }:=by
 have nit:∀b u,H b=some u->b≠it:=λb u e z=>by rw[z,hn] at e;cases e
 refine I.qc (g':=s.gens) (d':=s.drawn) (ch:=[it]) (λb hb=>?_) (λb o _ _ hc e _=>k b o (λz=>hc (by simp[z])) e) (λb o _ _ hc e _=>⟨o.slots,k b o (λz=>hc (by simp[z])) e⟩) (λ_ _ _ _ n=>n)
  (λb o hc e=>⟨o,k b o (λz=>hc (by simp[z])) e⟩) (λ_ _ e=>e) (λ_ _ _ e=>e) (λb ps e=>⟨#[],by rw[e];simp⟩) (λm hm=>?_) (λb u e=>?_) I.iR
 ·have e:b=it:=by simpa using hb
  subst e;exact⟨h1,hL,h2,h3⟩
 ·obtain⟨o,es,ep,ho,r⟩:=hm
  exact⟨o,es,ep,k _ o (zbj hL) ho,r⟩
 ·refine (I.cg b u e).rB (λc v hc q=>k c v ?_ q) (λ_ q=>q) λ_ _ q=>q
  rcases hc with z|z
  ·rw[z];exact nit b u e
  ·exact nit c _ z
theorem aI.oK (I:aI X ah σ H s)(t:Nat):aI X ah σ H {s with toks:=t}:=I.un (h':=s.heap) (t':=t) Un.refl I.cg
theorem aI.gz (I:aI X ah σ H s)(k:∀b u,s.heap.get? b=some u->h'.get? b=some u):aI X ah σ H {s with heap:=h',toks:=t' }:=I.un (Un.gz k) (I.cg.gz k)
theorem aI.ju (I:aI X ah σ H s)(k:∀b u,s.heap.get? b=some u->h'.get? b=some u)(hp:s.heap.objs.size<=a)(new:bY X.prog X.w (br H a o) h' a o):
  aI X ah σ (br H a o) {s with heap:=h',toks:=t' }:=I.un (Un.ju k hp (I.cg.fresh hp)) (I.cg.ju k hp new)
theorem aI.jy (I:aI X ah σ H s)(mu:Mut (H x))(he:e=x\/H e=some (.sD x))(k:∀b u,b≠e->s.heap.get? b=some u->h'.get? b=some u)(heo:∃u,h'.get? e=some u)
  (new:bY X.prog X.w (br H x o) h' x o):aI X ah σ (br H x o) {s with heap:=h',toks:=t' }:=I.un (Un.jy mu he k heo) (I.cg.jy mu he k heo new)
theorem aI.FA (I:aI X ah σ H s)(h:∀p∈aeR,s.heap.get? p.1=some p.2/\H p.1=none/\p.1≠X.env.locals/\p.1∉X.fs/\∀v,p.2.data ≠ .cell v):aI X aeR σ H s:=
 ⟨I.ok,I.os,I.iR,I.base,I.AD,I.cell,I.free,I.lB,λp hp=>(zbW.mp hp).elim (λz=>I.CU p (zcg _ z)) (h p),I.cg,I.len⟩
theorem AE {N:List Str}(hN:N.Nodup){i j:Nat}{x:Str}(a:N[i]? = some x)(b:N[j]? = some x):i=j:=by
 obtain⟨h1,e1⟩:=zae.mp a
 obtain⟨h2,e2⟩:=zae.mp b
 exact (List.getElem_inj hN).mp (e1.trans e2.symm)
theorem wX {M:Model}{A:Around}{E:Value->Shared->Prop}{i:Nat}{x:Str}{v:V}{u:Value}{Q:Unit->Shared->Prop}(I:aI X ah σ H s)(hN:X.N.Nodup)(hi:X.N[i]? = some x)(hx:UH X.env.scope x)(r:bG v u)
  (h:∀s',aI X ah (σ.set i (some v)) H s'->(∃a,Heap.SameBut a s.heap s'.heap/\(a=X.env.locals\/X.env.cells.lookup x=some a))->Q () s') (hf:X.fn x=true\/X.env.scope.names.lookup x=some .local:=by first|exact .inl rfl|exact .inr rfl|assumption):wpAny M A (storeName X.env x u) Q E s:=by
 obtain⟨m,hn,hl⟩:=id I.AD;have Yq:(X.env.scope.kind == .class || (X.env.scope.kind == .module && X.env.locals != X.env.globals))=false:=by rw[I.ok.kind];rfl
 have aeS:i<σ.length:=by rw[I.len];exact (zae.mp hi).1
 have Yp:=I.Yp;have yN:∀{a:Addr} {h':Heap},(∃o,s.heap.get? a=some o/\H a=none)->Heap.SameBut a s.heap h'->nI X.prog X.w H h':=λ{a h'} ha hs b ob e=>by
  obtain⟨_,_,wY⟩:=ha;refine (I.cg b ob e).rB (λc w' hc q=>(hs.2 c ?_).trans q) (λ_ q=>q) λ_ _ q=>q
  rintro rfl
  rcases hc with rfl|hc
  ·rw[wY] at e;cases e
  ·rw[wY] at hc;cases hc
 rcases hx with hk|hk
 ·refine wpAny_storeName_local hk hn (λh' hn' hs=>?_) Yq
  obtain⟨oL,_,_,hoL,_⟩:=id hn;refine h _ ⟨I.ok,I.os,I.iR,⟨λb o e n hb hx=>?_,λb o e n hb hx=>?_,I.base.free,λb o e hx=>?_,I.base.wc,I.base.sE,I.base.we⟩,⟨_,hn',λj y v' e1 e2 e3=>?_⟩,λy c e=>?_,I.free,I.lB,λp hp=>?_,yN ⟨oL,hoL,I.free⟩ hs,by simpa using I.len⟩ ⟨_,hs,.inl rfl⟩
  ·exact (hs.2 b (zaq (zao (zam e) I.ok.above))).trans (I.base.keep b o e n hb hx)
  ·obtain⟨sl,e1⟩:=I.base.slot b o e n hb hx
   exact⟨sl,(hs.2 b (zaq (zao (zam e) I.ok.above))).trans e1⟩
  ·obtain⟨o',e1⟩:=I.base.there b o e hx
   exact⟨o',(hs.2 b (zaq (zao (zam e) I.ok.above))).trans e1⟩
  ·by_cases hj:j=i
   ·subst hj
    rw[hi] at e1;cases e1
    rw[zaH aeS] at e2;cases e2;exact⟨u,r,.inl ⟨hk,by simp⟩⟩
   ·rw[zaA (zbj hj)] at e2
    obtain⟨u',r',q⟩:=hl j y v' e1 e2 e3;refine⟨u',r',?_⟩
    rcases q with⟨k,e⟩|⟨k,c,e,z⟩
    ·refine .inl ⟨k,?_⟩
     have:y≠x:=λe=>hj (AE hN e1 (e ▸ hi))
     simp[this,e]
    ·exact .inr ⟨k,c,e,z.sameBut hs (Yp y c e)⟩
  ·obtain⟨w',z⟩:=I.cell y c e
   exact⟨w',z.sameBut hs (Yp y c e)⟩
  ·obtain⟨e,n,ne,nf,d⟩:=I.CU p hp
   exact⟨(hs.2 p.1 ne).trans e,n,ne,nf,d⟩
 ·have hfn:X.fn x=true:=by
   rcases hf with z|z
   ·exact z
   ·rw[z] at hk;cases hk
  obtain⟨c,hc⟩:=I.ok.has x (.inl hk)
  obtain⟨w',z⟩:=I.cell x c hc;refine wpAny_storeName_cell I.ok.kind hk hc z (λh' Qe hs=>?_)
  obtain⟨oc,hoc,akh⟩:=id z;refine h {s with heap:=h' } ⟨I.ok,I.os,I.iR,⟨λb o e n hb hx=>?_,λb o e n hb hx=>?_,I.base.free,λb o e hx=>?_,I.base.wc,I.base.sE,I.base.we⟩,⟨m,hn.sameBut hs (zbj (Yp x c hc)),λj y v' e1 e2 e3=>?_⟩,λy c' e=>?_,I.free,I.lB,λp hp=>?_,yN ⟨oc,hoc,I.lB x c hc⟩ hs,by simpa using I.len⟩ ⟨c,hs,.inr hc⟩
  ·exact (hs.2 b (zaq (zao (zam e) (I.ok.Yo x c hfn hc)))).trans (I.base.keep b o e n hb hx)
  ·obtain⟨sl,e1⟩:=I.base.slot b o e n hb hx
   exact⟨sl,(hs.2 b (zaq (zao (zam e) (I.ok.Yo x c hfn hc)))).trans e1⟩
  ·obtain⟨o',e1⟩:=I.base.there b o e hx
   exact⟨o',(hs.2 b (zaq (zao (zam e) (I.ok.Yo x c hfn hc)))).trans e1⟩
  ·by_cases hj:j=i
   ·subst hj
    rw[hi] at e1;cases e1
    rw[zaH aeS] at e2;cases e2;exact⟨u,r,.inr ⟨.inl hk,c,hc,Qe⟩⟩
   ·rw[zaA (zbj hj)] at e2
    obtain⟨u',r',q⟩:=hl j y v' e1 e2 e3;refine⟨u',r',?_⟩
    rcases q with q|⟨k,c',e,z'⟩
    ·exact .inl q
    ·refine .inr ⟨k,c',e,z'.sameBut hs ?_⟩
     rintro rfl
     exact hj (AE hN e1 (I.ok.inj _ _ _ e hc ▸ hi))
  ·by_cases hcc:c'=c
   ·subst hcc;exact⟨_,Qe⟩
   ·obtain⟨w2,z2⟩:=I.cell y c' e
    exact⟨w2,z2.sameBut hs hcc⟩
  ·obtain⟨e,n,ne,nf,d⟩:=I.CU p hp
   refine⟨(hs.2 p.1 ?_).trans e,n,ne,nf,d⟩
   intro q;rw[q,hoc] at e;have q':oc=p.2:=zas e
   exact d w' (by rw[<-q'];exact akh)
theorem oO (I:aI X ah σ H s)(hN:X.N.Nodup)(hi:X.N[i]? = some x)(hx:UH X.env.scope x)(r:bG v u)
  (h:∀s',aI X ah (σ.set i (some v)) H s'->Q () s') (hf:X.fn x=true\/X.env.scope.names.lookup x=some .local:=by first|exact .inl rfl|exact .inr rfl|assumption):wpAny M A (storeName X.env x u) Q E s:=
 wX I hN hi hx r (λs' I' _=>h s' I') hf
theorem aI.FD (I:aI X ah σ H s)(ho:s'.os=s.os)(u:Un (rT X.cY) ch H H' s.heap s'.heap)(cg:nI X.prog X.w H' s'.heap)(hg:AllBare s'.gens)
  (PV:∀b∈ch,(b∈X.ex\/X.s₀.heap.objs.size<=b)/\b≠X.env.locals/\(∀x c,X.env.cells.lookup x=some c->c≠b)/\∀p∈X.pn++ah,p.1≠b):aI X ah σ H' s':=by
 obtain⟨h',g',d',t',o'⟩:=s';have e:o'=s.os:=ho
 subst e;exact I.call (g':=g') (t':=t') (d':=d') u cg hg PV
end
noncomputable abbrev XK:=Value->Option Addr->Hp->Prop
noncomputable abbrev St:=List (Option V)
noncomputable abbrev VK:=V->Hp->Prop
noncomputable abbrev TE:=St->Hp->VK->Prop
noncomputable abbrev TT:=St->Hp->(Bool->Hp->Prop)->Prop
noncomputable abbrev TA:=St->Hp->(List V->Hp->Prop)->Prop
structure AF where
 nx:St->Hp->Prop
 rt:VK
 bk:St->Hp->Prop:=λ_ _=>False
 ct:St->Hp->Prop:=λ_ _=>False
noncomputable abbrev TS:=AF->St->Hp->Prop
noncomputable def EP (X:Cx)(ah:List (Addr×Obj))(σ:St)(Q:VK)(u:Value)(s':Shared):Prop:=∃v H',aI X ah σ H' s'/\bG v u/\Q v H'
noncomputable def TP (X:Cx)(ah:List (Addr×Obj))(σ:St)(Q:Bool->Hp->Prop)(b:Bool)(s':Shared):Prop:=∃H',aI X ah σ H' s'/\Q b H'
noncomputable def AP (X:Cx)(ah:List (Addr×Obj))(σ:St)(Q:List V->Hp->Prop)(us:List Value)(s':Shared):Prop:=∃vs H',aI X ah σ H' s'/\bz vs us/\Q vs H'
noncomputable def SP (X:Cx)(ah:List (Addr×Obj))(D:AF)(f:Flow)(s':Shared):Prop:=
 match f with
 |.next=>∃dP H',aI X ah dP H' s'/\D.nx dP H'
 |.brk=>∃dP H',aI X ah dP H' s'/\D.bk dP H'
 |.cont=>∃dP H',aI X ah dP H' s'/\D.ct dP H'
 |.ret u=>∃v dP H',aI X ah dP H' s'/\bG v u/\D.rt v H'
noncomputable def PE (X:Cx)(e:Expr)(t:TE):Prop:=
 ∀(ah:List (Addr×Obj)) (s:Shared) (σ:St) (H:Hp) (Q:VK),aI X ah σ H s->t σ H Q->wpAny (model X.prog X.w) X.A (eval e X.env) (EP X ah σ Q) X.xe s
noncomputable def PT (X:Cx)(e:Expr)(t:TT):Prop:=
 ∀(ah:List (Addr×Obj)) (s:Shared) (σ:St) (H:Hp) (Q:Bool->Hp->Prop),aI X ah σ H s->t σ H Q->wpAny (model X.prog X.w) X.A (isTrue e X.env (eval e X.env)) (TP X ah σ Q) X.xe s
noncomputable def PW (X:Cx)(e:Expr)(t:TT):Prop:=
 ∀(sH:Sem Value) (ah:List (Addr×Obj)) (s:Shared) (σ:St) (H:Hp) (Q:Bool->Hp->Prop),aI X ah σ H s->t σ H Q->wpAny (model X.prog X.w) X.A (isTrue e X.env sH) (TP X ah σ Q) X.xe s
theorem PW.pt (h:PW X e t):PT X e t:=h _
noncomputable def PA (X:Cx)(es:List Expr)(t:TA):Prop:=
 ∀(pos:Pos) (ah:List (Addr×Obj)) (s:Shared) (σ:St) (H:Hp) (Q:List V->Hp->Prop),aI X ah σ H s->t σ H Q->wpAny (model X.prog X.w) X.A (spliced (backTo pos (starEach es X.env))) (AP X ah σ Q) X.xe s
noncomputable def PS (X:Cx)(st:Stmt)(t:TS):Prop:=
 ∀(ah:List (Addr×Obj)) (s:Shared) (σ:St) (H:Hp) (D:AF),aI X ah σ H s->t D σ H->wpAny (model X.prog X.w) X.A (exec st X.env) (SP X ah D) X.xe s
noncomputable def wg (X:Cx)(st:List Stmt)(t:TS):Prop:=
 ∀(ah:List (Addr×Obj)) (s:Shared) (σ:St) (H:Hp) (D:AF),aI X ah σ H s->t D σ H->wpAny (model X.prog X.w) X.A (execs st X.env) (SP X ah D) X.xe s
theorem cG {α:Type}{t:Sem α}{Q Q' : α -> Shared->Prop}{M:Model}{A:Around}{E:Value->Shared->Prop}{s:Shared}(h:wpAny M A t Q E s)(hQ:∀a s,Q a s->Q' a s):wpAny M A t Q' E s:=zaQ h hQ λ_ _ x=>x
section
variable {X:Cx}
noncomputable def aeT (i:Nat):TE:=λσ H Q=>∃v,σ[i]? = some (some v)/\Q v H
noncomputable def tC (v:V):TE:=λ_ H Q=>Q v H
theorem Ku (hN:X.N[i]? = some x)(hv:Vis X.env.scope x)(hd:(x == ("__debug__" : Str))=false:=by decide)(AG:(x == ("__classdict__" : Str))=false:=by decide):PE X (.Name x pos) (aeT i):=by
 intro ah s σ H Q I h;obtain⟨v,e,h⟩:=h;obtain⟨m,hn,hl⟩:=I.AD;obtain⟨u,r,l⟩:=hl i x v hN e hv;have fL:EP X ah σ Q u s:=⟨v,H,I,r,h⟩
 rcases l with⟨hk,hm⟩|⟨hk,c,hc,AH⟩
 ·exact wpAny_Name (wpAny_loadName_local I.ok.kind hk hn hm fL) hd
 ·rcases hk with hk|hk
  ·exact wpAny_Name (wpAny_loadName_cell I.ok.kind hk hc AH fL) hd
  ·exact wpAny_Name (wpAny_loadName_free I.ok.kind hk hc AH fL AG) hd
theorem Yr {i j pos}:PE X (.Constant (.int i) j pos) (tC (.int i)):=λ_ _ _ H _ I h=>wpAny_Constant_int ⟨.int i,H,I.oK _,⟨_,rfl⟩,h⟩
theorem aeU {b j pos}:PE X (.Constant (.bool b) j pos) (tC (.bl b)):=λ_ _ _ H _ I h=>Constant_bool ⟨.bl b,H,I,rfl,h⟩
theorem Ys {j pos}:PE X (.Constant .none j pos) (tC .bw):=λ_ _ _ H _ I h=>Constant_none ⟨.bw,H,I,rfl,h⟩
theorem Yt {x j pos}:PE X (.Constant (.str x) j pos) (tC (.str x)):=λ_ _ _ H _ I h=>Calls.Constant_str ⟨.str x,H,I.oK _,⟨_,rfl⟩,h⟩
noncomputable def Gl (X:Cx)(x:Str):Prop:=X.env.kindOf x=some .globalImplicit
theorem mZ (I:aI X ah σ H s)(hg:Gl X x)(hm:X.mg x=some u)(h:Q u s)
  (hd:(x == ("__debug__" : Str))=false:=by decide):wpAny (model X.prog X.w) X.A (eval (.Name x pos) X.env) Q E s:=
 zdG I.ok.kind hg (Calls.loadGlobal_global (by rw[I.ok.sF];exact I.sG.sF.keeps I.bk) hm h) hd
theorem sI (I:aI X ah σ H s)(hg:Gl X x)(hm:X.mg x=none)(hv:bootBuiltins x=some u)(h:Q u s)
  (hn:x ≠ "__name__" := by decide) (hd:(x == ("__debug__" : Str))=false:=by decide):wpAny (model X.prog X.w) X.A (eval (.Name x pos) X.env) Q E s:=by
 obtain⟨mb,h1,h2⟩:=I.sG.UG;exact zdG I.ok.kind hg (Calls.loadGlobal_builtin (by rw[I.ok.sF];exact I.sG.sF.keeps I.bk) hm (by rw[I.ok.UG];exact h1.keeps I.bk) ((h2 x hn).trans hv) h) hd
theorem Qf (hg:Gl X x)(hm:X.mg x=some u)(r:bG v u)(hd:(x == ("__debug__" : Str))=false:=by decide):PE X (.Name x pos) (tC v):=
 λ_ _ _ H _ I h=>mZ I hg hm ⟨v,H,I,r,h⟩ hd
theorem Qg (hg:Gl X x)(hm:X.mg x=none)(hv:bootBuiltins x=some u)(r:bG v u)(hn:x ≠ "__name__" := by decide)(hd:(x == ("__debug__" : Str))=false:=by decide):PE X (.Name x pos) (tC v):=
 λ_ _ _ H _ I h=>sI I hg hm hv ⟨v,H,I,r,h⟩ hn hd
variable {a b:Expr}{ta tb:TE}{pos:Pos}
noncomputable def PC (X:Cx)(op:CmpOp)(a b:Expr)(t:TE):Prop:=
 ∀(ah:List (Addr×Obj)) (s:Shared) (σ:St) (H:Hp) (Q:VK),aI X ah σ H s->t σ H Q ->
  wpAny (model X.prog X.w) X.A (eval a X.env) (λv cI=>wpAny (model X.prog X.w) X.A (eval b X.env) (λu lW=>wpAny (model X.prog X.w) X.A (compareOp op v u) (EP X ah σ Q) X.xe lW) X.xe cI) X.xe s
noncomputable def tB (t:TE):TT:=λσ H Q=>t σ H λx H1=>∃c,x = .bl c/\Q c H1
theorem Yu (h:PC X op a b t)(h1:behindInMarks op b=false:=by first|exact Kv _ (by decide) (by decide)|rfl):PE X (.Compare a [op] [b] pos) t:=λah s σ H Q I hw=>wpAny_Compare1 (h ah s σ H Q I hw) h1
theorem Yv (h:PC X op a b t)(h1:behindInMarks op b=false:=by first|exact Kv _ (by decide) (by decide)|rfl):PT X (.Compare a [op] [b] pos) (tB t):=by
 intro ah s σ H Q I hw;refine wpAny_isTrue_Compare1 (cG (h ah s σ H _ I hw) λv s1 h1=>cG h1 λu s2 h2=>cG h2 λc s3 ⟨x,H1,I1,r1,q1⟩=>?_) h1
 obtain⟨d,rfl,q⟩:=q1;cases r1;exact zbb ⟨H1,I1,q⟩
theorem Yw (h:PE X e t)(he:∀sH,isTrue e X.env sH=(do let v <-sH;standAt e.pos;holding [v] (truthy v)):=by intro _;rfl):PT X e (tB t):=by
 intro ah s σ H Q I hw;refine isTrue_plain (cG (h ah s σ H _ I hw) λv s1 ⟨x,H1,I1,r1,q1⟩=>?_) (he _)
 obtain⟨d,rfl,q⟩:=q1;cases r1;exact zbb ⟨H1,I1,q⟩
variable {tA tB':TT}{cX:List Expr}
noncomputable def aki (t u:TT):TT:=λσ H Q=>t σ H λc H1=>if c=true then u σ H1 Q else Q false H1
noncomputable def tOr (t u:TT):TT:=λσ H Q=>t σ H λc H1=>if c=true then Q true H1 else u σ H1 Q
noncomputable def akj (t:TT):TT:=λσ H Q=>t σ H λc H1=>Q (!c) H1
theorem Qh (ha:PT X a tA):PW X (.BoolOp .And [a] pos) tA:=by
 intro wh ah s σ H Q I h;refine isTrue_and (cG (ha ah s σ H Q I h) λc s1 e=>?_)
 cases c with
 |true=>exact isTrue_and_nil e
 |false=>exact e
theorem Yx (ha:PT X a tA):PW X (.BoolOp .Or [a] pos) tA:=by
 intro wh ah s σ H Q I h;refine isTrue_or (cG (ha ah s σ H Q I h) λc s1 e=>?_)
 cases c with
 |false=>exact isTrue_or_nil e
 |true=>exact e
theorem Yy (ha:PT X a tA)(hb:PW X (.BoolOp .And (b::cX) pos) tB'):PW X (.BoolOp .And (a::b::cX) pos) (aki tA tB'):=by
 intro wh ah s σ H Q I h;refine isTrue_and (cG (ha ah s σ H _ I h) λc s1 ⟨H1,I1,q1⟩=>?_)
 cases c with
 |true=>exact hb wh ah s1 σ H1 Q I1 q1
 |false=>exact⟨H1,I1,q1⟩
theorem aeV (ha:PT X a tA)(hb:PW X (.BoolOp .Or (b::cX) pos) tB'):PW X (.BoolOp .Or (a::b::cX) pos) (tOr tA tB'):=by
 intro wh ah s σ H Q I h;refine isTrue_or (cG (ha ah s σ H _ I h) λc s1 ⟨H1,I1,q1⟩=>?_)
 cases c with
 |true=>exact⟨H1,I1,q1⟩
 |false=>exact hb wh ah s1 σ H1 Q I1 q1
theorem Yz (ha:PT X a tA):PT X (.UnaryOp .Not a pos) (akj tA):=by
 intro ah s σ H Q I h;exact isTrue_not (ha ah s σ H (λc H1=>Q (!c) H1) I h)
noncomputable def aeW (ta tb:TE):TE:=λσ H Q=>ta σ H λx H1=>∃c,x = .bl c/\if c=true then tb σ H1 Q else Q (.bl false) H1
noncomputable def akk (ta tb:TE):TE:=λσ H Q=>ta σ H λx H1=>∃c,x = .bl c/\if c=true then Q (.bl true) H1 else tb σ H1 Q
noncomputable def aeX (ta:TE):TE:=λσ H Q=>ta σ H λx H1=>∃c,x = .bl c/\Q (.bl (!c)) H1
theorem YA {op}(h:PE X a t):PE X (.BoolOp op [a] pos) t:=λah s σ H Q I hw=>BoolOp_one (h ah s σ H Q I hw)
theorem YB (ha:PE X a ta)(hb:PE X (.BoolOp .And (b::cX) pos) tb):PE X (.BoolOp .And (a::b::cX) pos) (aeW ta tb):=by
 intro ah s σ H Q I h;refine BoolOp_and (cG (ha ah s σ H _ I h) λv s1 ⟨x,H1,I1,r1,q1⟩=>?_)
 obtain⟨c,rfl,q1⟩:=q1;cases r1;refine zbb ?_
 cases c with
 |true=>exact hb ah s1 σ H1 Q I1 q1
 |false=>exact⟨.bl false,H1,I1,rfl,q1⟩
theorem aeY (ha:PE X a ta)(hb:PE X (.BoolOp .Or (b::cX) pos) tb):PE X (.BoolOp .Or (a::b::cX) pos) (akk ta tb):=by
 intro ah s σ H Q I h;refine BoolOp_or (cG (ha ah s σ H _ I h) λv s1 ⟨x,H1,I1,r1,q1⟩=>?_)
 obtain⟨c,rfl,q1⟩:=q1;cases r1;refine zbb ?_
 cases c with
 |false=>exact hb ah s1 σ H1 Q I1 q1
 |true=>exact⟨.bl true,H1,I1,rfl,q1⟩
theorem YC (ha:PE X a ta):PE X (.UnaryOp .Not a pos) (aeX ta):=by
 intro ah s σ H Q I h;refine UnaryOp_ (cG (ha ah s σ H _ I h) λv s1 ⟨x,H1,I1,r1,q1⟩=>?_)
 obtain⟨c,rfl,q1⟩:=q1;cases r1;exact not_of (zbb ⟨.bl (!c),H1,I1,rfl,q1⟩)
noncomputable def tIf (t:TT)(ta tb:TE):TE:=λσ H Q=>t σ H λc H1=>if c=true then ta σ H1 Q else tb σ H1 Q
theorem Kw (hc:PT X c tA)(ha:PE X a ta)(hb:PE X b tb):PE X (.IfExp c a b pos) (tIf tA ta tb):=by
 intro ah s σ H Q I h;refine wpAny_IfExp (cG (hc ah s σ H _ I h) λd s1 ⟨H1,I1,q1⟩=>?_)
 cases d with
 |true=>exact ha ah s1 σ H1 Q I1 q1
 |false=>exact hb ah s1 σ H1 Q I1 q1
end
noncomputable def i6 (K:PySem.W.Frag)(H:Hp)(a:Addr)(xs:List V):Prop:=
 Rd H a (.aV xs) \/
  ∃(o:Obj) (aH:Array Value) (n:Nat),K.lookup a=some o/\o.cls = .type "list" /\ o.dict=none/\o.data = .seq aH n/\aH.size<=sizeLine/\bz xs aH.toList
noncomputable def oM (K:PySem.W.Frag)(H:Hp)(a:Addr)(xs:List V):Prop:=
 Rd H a (.gp xs) \/
  ∃(o:Obj) (aH:Array Value) (n:Nat),K.lookup a=some o/\o.cls = .type "tuple" /\ o.data = .seq aH n/\aH.size<=sizeLine/\bz xs aH.toList
noncomputable def akl:Value->Option V
 |.none=>some .bw
 |.bool b=>some (.bl b)
 |.int i _=>some (.int i)
 |.str x _=>some (.str x)
 |.bytes b _=>some (.J5 b)
 |.float b _=>some (.Yi b)
 |.ref a=>some (.ref a)
 |.type n=>some (.ty n)
 |_=>none
theorem bG.abs (r:bG x u):akl u=some x:=by
 cases x with
 |bw=>cases r;rfl
 |bl _=>cases r;rfl
 |int _=>obtain⟨t,rfl⟩:=r;rfl
 |str _=>obtain⟨t,rfl⟩:=r;rfl
 |J5 _=>obtain⟨t,rfl⟩:=r;rfl
 |Yi _=>obtain⟨t,rfl⟩:=r;rfl
 |ref _=>cases r;rfl
 |ty _=>cases r;rfl
theorem bG.inj (r:bG x u)(q:bG y u):x=y:=zas (r.abs.symm.trans q.abs)
theorem bz.inj:∀{xs ys:List V} {us:List Value},bz xs us->bz ys us->xs=ys
 |_,_,_,.nil,.nil=>rfl
 |_,_,_,.cons r t,.cons r' t'=>by rw[r.inj r',bz.inj t t']
theorem i6.of {K:PySem.W.Frag}(h:H a=some (.aV xs)):i6 K H a xs:=.inl (.inl h)
theorem oM.of {K:PySem.W.Frag}(h:H a=some (.gp xs)):oM K H a xs:=.inl (.inl h)
theorem aI.list (I:aI X ah σ H s)(h:i6 X.K H a xs):∃aH:List Value,bz xs aH/\PlainL s.heap a aH.toArray/\xs.length<=sizeLine:=by
 rcases h with h|⟨o,aH,n,hk,hc,hd,hs,hz,r⟩
 ·obtain⟨z,aH,n,r,e⟩:=h.ok I.cg
  exact⟨aH,r,⟨_,n,e,rfl,rfl,rfl⟩,z⟩
 ·refine⟨aH.toList,r,⟨o,n,I.kj a o hk,hc,hd,by simpa using hs⟩,?_⟩
  have e:=r.length;simp only[zdr] at e;omega
theorem aI.fD (I:aI X ah σ H s)(h:oM X.K H a xs):∃aH:List Value,bz xs aH/\IsTup s.heap a aH.toArray/\xs.length<=sizeLine:=by
 rcases h with h|⟨o,aH,n,hk,hc,hs,hz,r⟩
 ·obtain⟨z,aH,r,p⟩:=h.ok I.cg
  exact⟨aH,r,p,z⟩
 ·refine⟨aH.toList,r,⟨o,I.kj a o hk,hc,n,by simpa using hs⟩,?_⟩
  have e:=r.length;simp only[zdr] at e;omega
theorem aI.AI (I:aI X ah σ H s)(h:i6 X.K H a xs)(h':i6 X.K H a ys):xs=ys:=by
 obtain⟨aH,r,⟨o,n,e,_,_,d⟩,_⟩:=I.list h
 obtain⟨its',r',⟨o',n',e',_,_,d'⟩,_⟩:=I.list h'
 rw[e] at e';cases e'
 rw[d] at d';injection d' with d1 _
 have:aH=its':=by simpa using congrArg Array.toList d1
 subst this;exact r.inj r'
theorem aI.HL (I:aI X ah σ H s)(h:oM X.K H a xs)(h':oM X.K H a ys):xs=ys:=by
 obtain⟨aH,r,⟨o,e,_,n,d⟩,_⟩:=I.fD h
 obtain⟨its',r',⟨o',e',_,n',d'⟩,_⟩:=I.fD h'
 rw[e] at e';cases e'
 rw[d] at d';injection d' with d1 _
 have:aH=its':=by simpa using congrArg Array.toList d1
 subst this;exact r.inj r'
noncomputable abbrev Cx.rD (X:Cx)(E:Value->Shared->Prop):Cx:={X with xe:=E}
noncomputable abbrev Cx.CV (X:Cx):Cx:=X.rD λ_ _=>False
theorem Cx.Ok.rD {X:Cx}(ok:X.Ok)(E:Value->Shared->Prop):(X.rD E).Ok:=
 ⟨ok.sG,ok.kind,ok.sF,ok.UG,ok.above,ok.inj,ok.has,ok.Yo,ok.hd,ok.frames,ok.stk,ok.exf,ok.bs,ok.PU,ok.jv,ok.C_,ok.lN,ok.Ks⟩
theorem Cx.Ok.gf {X:Cx}{E:Value->Shared->Prop}(ok:(X.rD E).Ok):X.Ok:=
 ⟨ok.sG,ok.kind,ok.sF,ok.UG,ok.above,ok.inj,ok.has,ok.Yo,ok.hd,ok.frames,ok.stk,ok.exf,ok.bs,ok.PU,ok.jv,ok.C_,ok.lN,ok.Ks⟩
theorem aI.rD (I:aI X ah σ H s)(E:Value->Shared->Prop):aI (X.rD E) ah σ H s:=⟨I.ok.rD E,I.os,I.iR,I.base,I.AD,I.cell,I.free,I.lB,I.CU,I.cg,I.len⟩
theorem aI.gf (I:aI (X.rD E) ah σ H s):aI X ah σ H s:=⟨I.ok.gf,I.os,I.iR,I.base,I.AD,I.cell,I.free,I.lB,I.CU,I.cg,I.len⟩
theorem SP.gf (h:SP (X.rD E) ah D f s'):SP X ah D f s':=by
 cases f with
 |next=>obtain⟨dP,H',I,q⟩:=h;exact⟨dP,H',I.gf,q⟩
 |brk=>obtain⟨dP,H',I,q⟩:=h;exact⟨dP,H',I.gf,q⟩
 |cont=>obtain⟨dP,H',I,q⟩:=h;exact⟨dP,H',I.gf,q⟩
 |ret u=>obtain⟨v,dP,H',I,r,q⟩:=h;exact⟨v,dP,H',I.gf,r,q⟩
theorem wg.CV {st:List Stmt}{t:TS}(h:wg X.CV st t):wg X st t:=λah s σ H D I hw =>
 zaQ (h ah s σ H D (I.rD _) hw) (λ_ _ q=>q.gf) λ_ _ z=>False.elim z
section
variable {X:Cx}{st:Stmt}{cX:List Stmt}{t u:TS}{e:Expr}{te:TE}{pos:Pos}
noncomputable def aeZ:TS:=λD σ H=>D.nx σ H
noncomputable def akm (t u:TS):TS:=λD σ H=>t {D with nx:=u D} σ H
theorem Qi:wg X [] aeZ:=λ_ _ σ H _ I h=>zct ⟨σ,H,I,h⟩
theorem sJ (h1:PS X st t)(h2:wg X cX u):wg X (st::cX) (akm t u):=by
 intro ah s σ H D I h;refine zdS (cG (h1 ah s σ H {D with nx:=u D} I h) λf s1 q=>?_)
 cases f with
 |next =>
  obtain⟨dP,H',I',q⟩:=q;exact h2 ah s1 dP H' D I' q
 |ret v=>exact q
 |brk=>exact q
 |cont=>exact q
theorem FE (h1:PS X st t):wg X [st] t:=by
 intro ah s σ H D I h;refine zdS (cG (h1 ah s σ H D I h) λf s1 q=>?_)
 cases f with
 |next=>exact zct q
 |ret v=>exact q
 |brk=>exact q
 |cont=>exact q
noncomputable def ae0:TS:=λD σ H=>D.ct σ H
theorem AJ:PS X (.Continue pos) ae0:=λ_ _ σ H _ I h=>wpAny_Continue ⟨σ,H,I,h⟩
theorem aI.quiet (I:aI X ah σ H s):interactive X.env=false:=by simp[interactive,I.ok.kind]
noncomputable def ae1 (te:TE):TS:=λD σ H=>te σ H λ_ H1=>D.nx σ H1
theorem FF (he:PE X e te)(hs:swapsWith e none pos.line X.env=pure false:=by rfl):PS X (.Expr e pos) (ae1 te):=by
 intro ah s σ H D I h;exact wpAny_Expr_any (cG (he ah s σ H _ I h) λv s1 ⟨x,H1,I1,r1,q1⟩=>⟨σ,H1,I1,q1⟩) I.quiet hs
noncomputable def akn (te:TE):TS:=λD σ H=>te σ H D.rt
theorem YD (he:PE X e te):PS X (.Return (some e) pos) (akn te):=by
 intro ah s σ H D I h;exact wpAny_Return_some (cG (he ah s σ H _ I h) λv s1 ⟨x,H1,I1,r1,q1⟩=>⟨x,σ,H1,I1,r1,q1⟩)
noncomputable def ako (c:TT)(t u:TS):TS:=λD σ H=>c σ H λb H1=>if b=true then t D σ H1 else u D σ H1
theorem ae2 (hc:PT X c tc)(ha:wg X a t)(hb:wg X b u):PS X (.If c a b pos) (ako tc t u):=by
 intro ah s σ H D I h;refine wpAny_If (cG (hc ah s σ H _ I h) λd s1 ⟨H1,I1,q1⟩=>?_)
 cases d with
 |true=>exact ha ah s1 σ H1 D I1 q1
 |false=>exact hb ah s1 σ H1 D I1 q1
end
noncomputable abbrev TG:=V->St->Hp->(St->Hp->Prop)->Prop
noncomputable abbrev UK:=List V->St->Hp->(St->Hp->Prop)->Prop
noncomputable def PG (X:Cx)(target:Expr)(t:TG):Prop:=
 ∀(ah:List (Addr×Obj)) (s:Shared) (σ:St) (H:Hp) (v:V) (u:Value) (Q:St->Hp->Prop),aI X ah σ H s->bG v u->t v σ H Q ->
  wpAny (model X.prog X.w) X.A (assign target X.env u) (λ_ s'=>∃dP H',aI X ah dP H' s'/\Q dP H') X.xe s
noncomputable def PX (X:Cx)(ts:List Expr)(t:UK):Prop:=
 ∀(ah:List (Addr×Obj)) (s:Shared) (σ:St) (H:Hp) (vs:List V) (us:List Value) (Q:St->Hp->Prop),aI X ah σ H s->bz vs us->t vs σ H Q ->
  wpAny (model X.prog X.w) X.A (assignInOrder ((assignEach ts X.env).map (·.2)) us) (λ_ s'=>∃dP H',aI X ah dP H' s'/\Q dP H') X.xe s
noncomputable abbrev ae3:=V->V->V->Hp->(Hp->Prop)->Prop
noncomputable def YE (X:Cx)(t:ae3):Prop:=
 ∀(ah:List (Addr×Obj)) (s:Shared) (σ:St) (H:Hp) (o i v:V) (ov iv u:Value) (Q:Hp->Prop),aI X ah σ H s->bG o ov->bG i iv->bG v u->t o i v H Q ->
  wpAny (model X.prog X.w) X.A (setItem ov iv u) (λ_ s'=>∃H',aI X ah σ H' s'/\Q H') X.xe s
noncomputable def FG (i:Nat):TG:=λv σ H Q=>Q (σ.set i (some v)) H
theorem Qj (hN:X.N.Nodup)(hi:X.N[i]? = some x)(hx:UH X.env.scope x)(hf:X.fn x=true\/X.env.scope.names.lookup x=some .local:=by first|exact .inl rfl|exact .inr rfl|assumption):PG X (.Name x pos) (FG i):=by
 intro ah s σ H v u Q I r h;exact wpAny_assign_Name (oO I hN hi hx r (λs' I'=>⟨_,H,I',h⟩) hf)
noncomputable def akp:UK:=λvs σ H Q=>vs=[]/\Q σ H
noncomputable def ae4 (t:TG)(u:UK):UK:=λvs σ H Q=>∃v r,vs=v::r/\t v σ H λdP H'=>u r dP H' Q
theorem Qk:PX X [] akp:=by
 intro ah s σ H vs us Q I r h;obtain⟨e,h⟩:=h;subst e;cases r;exact assignInOrder_nil ⟨σ,H,I,h⟩
theorem Ky (h1:PG X e t)(h2:PX X es u)
  (hs:(assignEach (e::es) X.env).map (·.2)=assign e X.env::(assignEach es X.env).map (·.2):=by rfl):PX X (e::es) (ae4 t u):=by
 intro ah s σ H vs us Q I r h;obtain⟨v,vr,e1,h⟩:=h;subst e1;cases r with
 |cons r rr =>
  rw[hs];refine zdz (cG (h1 ah s σ H _ _ _ I r h) λ_ s1 ⟨YF,H1,I1,q1⟩=>?_)
  exact h2 ah s1 YF H1 _ _ Q I1 rr q1
noncomputable def akq (K:PySem.W.Frag)(n:Nat)(t:UK):TG:=λv σ H Q=>∃a xs,v = .ref a/\oM K H a xs/\xs.length=n/\t xs σ H Q
theorem YG (hc:X.fM=true)(h:PX X es t)
  (hn:(assignEach es X.env).length=n:=by rfl) (qa:(assignEach es X.env).findIdx? (·.1)=none:=by rfl):PG X (.Tuple es k pos) (akq X.K n t):=by
 intro ah s σ H v u Q I r hw;obtain⟨a,xs,e1,hq,hl,hw⟩:=hw;subst e1;cases r;obtain⟨aH,rv,ht,hz⟩:=I.fD hq;refine assign_Tuple_tuple (I.ok.hd hc) ht (by simp[hn,<-hl,rv.length]) qa λh' hx=>?_
 have I1:aI X ah σ H {s with heap:=h' }:=I.gz (t':=s.toks) λb o e=>hx b o (zaq (zam e)) e
 exact h ah _ σ H xs _ Q I1 (by simpa using rv) hw
noncomputable def akr (to ti:TE)(t:ae3):TG:=λv σ H Q=>to σ H λo H1=>ti σ H1 λi H2=>t o i v H2 λH3=>Q σ H3
theorem YH (ho:PE X o to)(hi:PE X i ti)(hs:YE X t)
  (ha:∀v,assign (.Subscript o i pos) X.env v=(do
   let ov <-holding [v] (eval o X.env)
   let iv <-holding [v,ov] (eval i X.env)
   standAt pos
   holding [v,ov,iv] (setItem ov iv v)
   release [v,ov,iv] []):=by intro _;rfl):PG X (.Subscript o i pos) (akr to ti t):=by
 intro ah s σ H v u Q I r h;rw[ha];refine zaa (zaD (cG (ho ah s σ H _ I h) λov s1 ⟨x,H1,I1,r1,q1⟩=>?_))
 refine zaa (zaD (cG (hi ah s1 σ H1 _ I1 q1) λiv s2 ⟨y,H2,I2,r2,q2⟩=>?_))
 refine zaa (zcc (zaa (zaD (cG (hs ah s2 σ H2 x y v ov iv u _ I2 r1 r2 r q2) λ_ s3 ⟨H3,I3,q3⟩=>?_))))
 exact wpAny_release ⟨σ,H3,I3,q3⟩
noncomputable def Ql (te:TE)(g:TG):TS:=λD σ H=>te σ H λx H1=>g x σ H1 D.nx
theorem YI (he:PE X e te)(hg:PG X tg g)(hs:swapsWithSole [tg] e pos.line X.env=pure false:=by rfl)(hw:swappedStores [tg] e X.env=pure none:=by rfl)
  (h1:(assignEach [tg] X.env).map (·.2)=[assign tg X.env]:=by rfl):PS X (.Assign [tg] e pos) (Ql te g):=by
 intro ah s σ H D I h;refine wpAny_Assign_stores (cG (he ah s σ H _ I h) λv s1 ⟨x,H1,I1,r1,q1⟩=>?_) hs hw
 rw[h1];exact cG (hg ah s1 σ H1 x v _ I1 r1 q1) λ_ s2 q=>q
theorem YJ (hN:X.N.Nodup)(hi:X.N[i]? = some x)(hx:UH X.env.scope x)(he:PE X e te)(hs:swapsWith e (some (.Name x jS)) pos.line X.env=pure false:=by rfl)(hf:X.fn x=true\/X.env.scope.names.lookup x=some .local:=by first|exact .inl rfl|exact .inr rfl|assumption):
  PS X (.Assign [.Name x jS] e pos) (Ql te (FG i)):=by
 intro ah s σ H D I h;refine wpAny_Assign_Name (cG (he ah s σ H _ I h) λv s1 ⟨y,H1,I1,r1,q1⟩=>?_) hs
 exact oO I1 hN hi hx r1 (λs2 I2=>⟨_,H1,I2,q1⟩) hf
noncomputable def aks (i j:Nat)(ta:TA):TS:=λD σ H=>ta σ H λvs H1=>∃v w,vs=[v,w]/\D.nx ((σ.set i (some v)).set j (some w)) H1
theorem YK {kt k2 YL}(hc:X.fM=true)(hN:X.N.Nodup)(hi:X.N[i]? = some x)(hj:X.N[j]? = some y)(hij:i≠j)
  (hx:X.env.scope.names.lookup x=some .local) (hy:X.env.scope.names.lookup y=some .local) (ha:PA X [a,b] ta)
  (hw:swappedStores [.Tuple [.Name x px,.Name y py] kt pt] (.Tuple [a,b] k2 YL) X.env=pure (some [x,y]))
  (hs:swapsWithSole [.Tuple [.Name x px,.Name y py] kt pt] (.Tuple [a,b] k2 YL) pos.line X.env=pure false:=by rfl):
  PS X (.Assign [.Tuple [.Name x px,.Name y py] kt pt] (.Tuple [a,b] k2 YL) pos) (aks i j ta):=by
 intro ah s σ H D I h;rw[exec_Assign_arm];refine zaa (zcc ?_)
 rw[hs];refine zaa (zad ?_)
 rw[if_neg (by decide)]
 refine zaa (Tuple_ (cG (ha _ ah s σ H _ I h) λus s1 ⟨vs,H1,I1,r1,q1⟩=>?_))
 obtain⟨v,w,e1,q1⟩:=q1;subst e1;obtain⟨u1,u2,rfl,rv,yO⟩:∃u1 u2,us=[u1,u2]/\bG v u1/\bG w u2:=by
  cases r1 with
  |cons p q =>
   cases q with
   |cons p' q' =>
    cases q';exact⟨_,_,rfl,p,p'⟩
 refine zaO ?_ (by show 2<=sizeLine;decide)
 have I2:aI X ah σ H1 { s1 with heap:=s1.heap.push { cls:=.type "tuple",data:=.seq [u1,u2].toArray} }:=I1.gz (t':=s1.toks) λb o e=>zab _ e
 rw[hw];refine zaa (zad ?_)
 show wpAny (model X.prog X.w) X.A (do rule "assign.swapped-stores";let items <-unpackItems (.ref s1.heap.objs.size) 2 none;assignInOrder [λv=>bindName X.env y v,λv=>bindName X.env x v] items.reverse;pure Flow.next) _ _ _
 refine zaa (zcU (zaa (unpackItems_tuple (items:=#[u1,u2]) (I.ok.hd hc) (IsTup.new s1.heap _) λh' PY=>?_)))
 have I3:=I2.gz (h':=h') (t':=s1.toks) λb o e=>PY b o (zaq (zam e)) e
 show wpAny _ _ (assignInOrder [λv=>bindName X.env y v,λv=>bindName X.env x v] [u2,u1] >>= λ_=>pure Flow.next) _ _ _
 refine zaa (zdz (wpAny_bindName (oO I3 hN hj (.inl hy) yO (λs2 I4=>?_) (.inr hy))))
 refine zdz (wpAny_bindName (oO I4 hN hi (.inl hx) rv (λs3 I5=>assignInOrder_nil (zad ?_)) (.inr hx)))
 rw[zcY _ _ (zbj hij)] at I5;exact⟨_,H1,I5,q1⟩
noncomputable def YM (c:TT)(tb:TS):TS:=λD σ H=>∃W:Nat->St->Hp->Prop,(∃m,W m σ H)/\∀m σ H,W m σ H ->
 c σ H λb H1=>if b=true then ∃N:St->Hp->Prop,(∀dP H',N dP H'->∃m',m' < m/\W m' dP H')/\tb {D with nx:=N,ct:=N,bk:=D.nx} σ H1 else D.nx σ H1
theorem Kz (hp:PassesOwn (model X.prog X.w) X.A X.env X.xe)(hc:PT X c tc)(hb:wg X body tb):PS X (.While c body [] pos) (YM tc tb):=by
 intro ah s σ H D I h;obtain⟨W,⟨m0,w0⟩,Dd⟩:=h
 refine wpAny_While (codeAny_whileLoop (λn s'=>∃dP H',aI X ah dP H' s'/\W n dP H') ?_ m0 ⟨σ,H,I,w0⟩)
 rintro n s1 ⟨YF,H1,I1,w1⟩
 refine zbX hp (cG (hc ah s1 YF H1 _ I1 (Dd n YF H1 w1)) λb s2 ⟨H2,I2,q2⟩=>?_)
 cases b with
 |true =>
  obtain⟨N,hN,q2⟩:=q2;rw[if_pos rfl];refine zbX hp (cG (hb ah s2 YF H2 _ I2 q2) λf s3 q3=>?_)
  cases f with
  |next =>
   obtain⟨KA,H3,I3,n3⟩:=q3;obtain⟨m',hm,w3⟩:=hN KA H3 n3;exact⟨m',hm,KA,H3,I3,w3⟩
  |cont =>
   obtain⟨KA,H3,I3,n3⟩:=q3;obtain⟨m',hm,w3⟩:=hN KA H3 n3;exact⟨m',hm,KA,H3,I3,w3⟩
  |brk=>exact q3
  |ret v=>exact q3
 |false =>
  rw[if_neg zag];exact zct ⟨YF,H2,I2,q2⟩
structure It where
 go:Nat->Hp->Prop
 yld:Nat->Hp->V->Hp->Prop
 stop:Nat->Hp->Prop
noncomputable def qd (X:Cx)(ah:List (Addr×Obj))(H:Hp)(b:Addr):Prop:=
 H b=none/\b≠X.env.locals/\b∉X.fs/\(b∈X.ex\/X.s₀.heap.objs.size<=b)/\(∀x c,X.env.cells.lookup x=some c->c≠b)/\∀p∈X.pn++ah,p.1≠b
theorem aI.KC (I:aI X ah σ H s)(hb:s.heap.objs.size<=b)(hn:H' b=none):qd X ah H' b:=by
 refine⟨hn,zbS (zao I.lt hb),I.ake hb,.inr (zai I.sz hb),λx c e z=>?_,λp hp z=>?_⟩
 ·obtain⟨v,q⟩:=I.cell x c e
  exact absurd (zao q.lt (by rw[z];exact hb)) (zbc _)
 ·exact absurd (zao (zam (I.CU p hp).1) (by rw[z];exact hb)) (zbc _)
structure HM (P:Program) (w:World) (K:PySem.W.Frag) (tg:Expr) (J:It) (fp:List Addr) (it:Addr) (tn:Nat->Heap->Prop):Prop where
 mem:it∈fp
 lC:∀i h,tn i h->∀b∈fp,∃o,h.get? b=some o/\∀v,o.data ≠ .cell v
 keep:∀i h h',tn i h->(∀b∈fp,∀o,h.get? b=some o->h'.get? b=some o)->tn i h'
 item:∀(X:Cx),X.prog=P->X.w=w->X.K=K->X.fM=true->∀(i:Nat) (ah:List (Addr×Obj)) (s:Shared) (σ:St) (H:Hp) (E:Value->Shared->Prop),aI X ah σ H s->(∀b∈fp,qd X ah H b)->tn i s.heap->J.go i H ->
  wpAny (model P w) X.A (pyNext (.ref it)) (λr s1=>∃u,r=some u /\
   wpAny (model P w) X.A (letOwnedTupleGo tg (.ref it) u) (λ_ s2=>∃x H',aI X ah σ H' s2/\bG x u/\J.yld i H x H'/\tn (i+1) s2.heap/\∀b∈fp,H' b=none) E s1) E s
 done:∀(X:Cx),X.prog=P->X.w=w->X.K=K->X.fM=true->∀(i:Nat) (ah:List (Addr×Obj)) (s:Shared) (σ:St) (H:Hp) (E:Value->Shared->Prop),aI X ah σ H s->(∀b∈fp,qd X ah H b)->tn i s.heap->J.stop i H ->
  wpAny (model P w) X.A (pyNext (.ref it)) (λr s1=>r=none/\aI X ah σ H s1) E s
 self:∀(A:Around) (i:Nat) (s:Shared) (Q:Value->Shared->Prop) (E:Value->Shared->Prop),tn i s.heap->Q (.ref it) s->wpAny (model P w) A (pyIter (.ref it)) Q E s
noncomputable abbrev TI:=St->Hp->(It->Hp->Prop)->Prop
noncomputable def PIE (X:Cx)(ah:List (Addr×Obj))(σ:St)(tg:Expr)(R:It->Hp->Prop)(itv:Value)(s2:Shared):Prop:=
 ∃(it:Addr) (fp:List Addr) (tn:Nat->Heap->Prop) (J:It) (H':Hp),itv = .ref it/\aI X ah σ H' s2/\HM X.prog X.w X.K tg J fp it tn/\tn 0 s2.heap/\(∀b∈fp,qd X ah H' b)/\R J H'
noncomputable def PI (X:Cx)(tg d8:Expr)(wi:TI):Prop:=
 ∀(ah:List (Addr×Obj)) (s:Shared) (σ:St) (H:Hp) (R:It->Hp->Prop),aI X ah σ H s->wi σ H R ->
  wpAny (model X.prog X.w) X.A (eval d8 X.env) (λv s1=>wpAny (model X.prog X.w) X.A (pyIter v) (PIE X ah σ tg R) X.xe s1) X.xe s
theorem KD (ho:s.heap.get? it=some o)(hc:o.cls = .type n)(hd:o.data = .fields vs)
    (hn:["enumerate","zip","dict_itemiterator","dict_reverseitemiterator","odict_iterator","itertools.zip_longest","itertools.pairwise"].contains n=false) (hQ:Q () s):wpAny M A (letOwnedTupleGo tg (.ref it) u) Q E s:=by
  unfold letOwnedTupleGo;cases tg<;>first
    |exact zad hQ
    | (cases u<;>first
        |exact zad hQ
        | (refine zaa (wpAny_load ho ?_)
           rw[hc,hd];show wpAny M A (if (["enumerate","zip","dict_itemiterator","dict_reverseitemiterator","odict_iterator","itertools.zip_longest","itertools.pairwise"].contains n && vs[0]? == some (rawInt _))=true then _ else _) Q E s
           rw[if_neg (by intro h;rw[hn,zdv] at h;cases h)]
           exact zad hQ))
noncomputable def Itl (K:PySem.W.Frag)(a:Addr):It:=
 ⟨λi H=>∃xs x,i6 K H a xs/\xs[i]? = some x,λi H x H'=>H'=H/\∀xs,i6 K H a xs->xs[i]? = some x,λi H=>∃xs,i6 K H a xs/\xs.length<=i⟩
noncomputable def Itr (lo:Int)(n:Nat):It:=⟨λi _=>i<n,λi H x H'=>H'=H/\x = .int (lo+i),λi _=>n<=i⟩
theorem HN {P:Program}{w:World}{K:PySem.W.Frag}{tg:Expr}(a it:Addr):HM P w K tg (Itl K a) [it] it (λi h=>h.IsListIter it a i) where
 mem:=by simp
 lC:=λi h st b hb=>by
  have e:b=it:=by simpa using hb
  subst e;obtain⟨o,e,c,d⟩:=st;exact⟨o,e,λv z=>by rw[d] at z;cases z⟩
 keep:=λi h h' st k=>st.at λo e=>k it (by simp) o e
 item:=by
  intro X hP hw hK hc i ah s σ H E I hf st hg;subst hP hw hK;obtain⟨xs,x,hq,hx⟩:=hg;obtain⟨aH,rv,p,hz⟩:=I.list hq;obtain⟨u,hu,ru⟩:=rv.get hx;obtain⟨f0,f1,f2,f3,f4,f5⟩:=hf it (by simp)
  refine wpAny_pyNext_list_item st p.isList (x:=u) (by simpa using hu) λh' KG sb=>?_
  have I1:aI X ah σ H {s with heap:=h' }:=I.nU (t':=s.toks) (λb o hb e=>(sb.2 b hb).trans e) f0 f1 f3 f4 f5
  obtain⟨o,e,c,d⟩:=id KG;exact⟨u,rfl,KD (s:={s with heap:=h' }) e c d (by decide) ⟨x,H,I1,ru,⟨rfl,λys hy=>by rw[I.AI hy hq];exact hx⟩,KG,λb hb=>(hf b hb).1⟩⟩
 done:=by
  intro X hP hw hK hc i ah s σ H E I hf st hg;subst hP hw hK;obtain⟨xs,hq,hx⟩:=hg;obtain⟨aH,rv,p,hz⟩:=I.list hq;obtain⟨f0,f1,f2,f3,f4,f5⟩:=hf it (by simp)
  have hl:=rv.length;exact wpAny_pyNext_list_end (I.ok.hd hc) st p.isList (by simp;omega) λh' eb=>⟨rfl,I.nU (t':=s.toks) (λb o hb e=>eb b o hb e) f0 f1 f3 f4 f5⟩
 self:=λ_ _ _ _ _ st h=>wpAny_pyIter_listiter st h
theorem De {P:Program}{w:World}{K:PySem.W.Frag}{tg:Expr}(it:Addr)(lo:Int)(n:Nat):HM P w K tg (Itr lo n) [it] it (λi h=>IsRangeIter h it (lo+(i:Nat) * 1) ((n:Int) - (i:Nat)) 1) where
 mem:=by simp
 lC:=λi h st b hb=>by
  have e:b=it:=by simpa using hb
  subst e;exact⟨_,st,λv z=>by
   have z':Data.fields _=Data.cell v:=z
   cases z'⟩
 keep:=λi h h' st k=>k it (by simp) _ st
 item:=by
  intro X hP hw hK hc i ah s σ H E I hf st hg;subst hP hw hK;obtain⟨f0,f1,f2,f3,f4,f5⟩:=hf it (by simp)
  have W:=Walks.range (prog:=X.prog) (w:=X.w) (I.ok.hd hc) it lo 1 n
  refine W.item i s _ _ hg st λv h' tk hv KG kk=>?_
  obtain⟨t,rfl⟩:=hv;have I1:aI X ah σ H {s with heap:=h',toks:=tk}:=I.nU (λb o hb e=>kk b o (by simpa using hb) e) f0 f1 f3 f4 f5
  refine⟨_,rfl,KD (s:={s with heap:=h',toks:=tk}) (n:= "range_iterator") KG rfl rfl (by decide) ⟨.int (lo+i),H,I1,⟨t,?_⟩,⟨rfl,rfl⟩,KG,λb hb=>(hf b hb).1⟩⟩
  rw[Int.mul_one]
 done:=by
  intro X hP hw hK hc i ah s σ H E I hf st hg;subst hP hw hK;obtain⟨f0,f1,f2,f3,f4,f5⟩:=hf it (by simp)
  exact wpAny_pyNext_range_end (I.ok.hd hc) st (by have:n<=i:=hg;omega) λh' eb=>⟨rfl,I.nU (t':=s.toks) (λb o hb e=>eb b o hb e) f0 f1 f3 f4 f5⟩
 self:=λ_ _ _ _ _ st h=>wpAny_pyIter_rangeiter st h
noncomputable def ae6 (K:PySem.W.Frag)(tl:TE):TI:=λσ H R=>tl σ H λx H1=>∃a,x = .ref a/\(∃xs,i6 K H1 a xs)/\R (Itl K a) H1
theorem Qm {l:Expr}{tl:TE}(hl:PE X l tl):PI X tg l (ae6 X.K tl):=by
 intro ah s σ H R I h;refine cG (hl ah s σ H _ I h) λv s1 ⟨x,H1,I1,r1,q1⟩=>?_
 obtain⟨a,e,⟨xs,hq⟩,q⟩:=q1
 subst e;cases r1;obtain⟨aH,rv,p,hz⟩:=I1.list hq;refine zce p.isList ?_
 refine⟨s1.heap.objs.size,[s1.heap.objs.size],_,_,H1,rfl,I1.gz (t':=s1.toks) λb o e=>zab _ e,HN a _,⟨_,zan _ rfl,rfl,rfl⟩,λb hb=>?_,q⟩
 have e:b=s1.heap.objs.size:=by simpa using hb
 subst e;exact I1.KC (zah _) (I1.cg.fresh (zah _))
theorem KH {ah:List (Addr×Obj)}{σ:St}{H:Hp}{s:Shared}{R:It->Hp->Prop}{E:Value->Shared->Prop}{lo hi:Int}{t u v:Tok}{tk:Nat}(I:aI X ah σ H s)(h1: -(2 ^ 62)<=lo)(h2:lo<2 ^ 62)(h3: -(2 ^ 62)<=hi)(h4:hi<2 ^ 62)
  (q:R (Itr lo (hi - lo).toNat) H):wpAny (model X.prog X.w) X.A (pyIter (.ref s.heap.objs.size)) (PIE X ah σ tg R) E { s with heap:=s.heap.push { cls:=.type "range",data:=.fields #[.int lo t,.int hi u,.int 1 v]},toks:=tk}:=by
 refine wpAny_pyIter_range (IsRange.new ..) (small_one h1 h2 h3 h4) ?_
 have I1:aI X ah σ H { s with heap:=s.heap.push { cls:=.type "range",data:=.fields #[.int lo t,.int hi u,.int 1 v]},toks:=tk}:=I.gz λb o e=>zab _ e
 refine⟨(s.heap.push { cls:=.type "range",data:=.fields #[.int lo t,.int hi u,.int 1 v]}).objs.size,[(s.heap.push { cls:=.type "range",data:=.fields #[.int lo t,.int hi u,.int 1 v]}).objs.size],_,_,H,rfl,
  I1.gz (t':=tk) λb o e=>zab _ e,De _ lo (hi - lo).toNat,?_,λb hb=>?_,q⟩
 ·have e1:lo+((0:Nat):Int) * 1=lo:=by simp
  have e2:(((hi - lo).toNat:Nat):Int) - ((0:Nat):Int)=Builtin.Range.rangeSize lo hi 1:=by rw[rangeSize_one];split<;>omega
  show IsRangeIter _ _ (lo+((0:Nat):Int) * 1) ((((hi - lo).toNat:Nat):Int) - ((0:Nat):Int)) 1
  rw[e1,e2];exact zan _ rfl
 ·have e:b=(s.heap.push { cls:=.type "range",data:=.fields #[.int lo t,.int hi u,.int 1 v]}).objs.size:=by simpa using hb
  subst e;exact I1.KC (zah _) (I1.cg.fresh (zah _))
noncomputable def ae7 (ta:TA):TI:=λσ H R=>ta σ H λvs H1=>∃j:Int,vs=[.int j] /\ -(2 ^ 62)<=j/\j<2 ^ 62/\R (Itr 0 j.toNat) H1
theorem HP {a:Expr}{ta:TA}{p pos:Pos}(hg:Gl X "range")(hm:X.mg "range"=none)(ha:PA X [a] ta)(hs:starEach [a] X.env=[(false,eval a X.env)]:=by rfl):PI X tg (.Call (.Name "range" p) [a] [] pos) (ae7 ta):=by
 intro ah s σ H R I h;refine Call_ (sI I hg hm boot_range (zcE (cG (ha pos ah s σ H _ I h) λus s1 ⟨vs,H1,I1,r1,q1⟩=>?_) hs rfl))
 obtain⟨j,e,q1,q2,q⟩:=q1;subst e;cases r1 with
 |cons r rr =>
  cases rr;obtain⟨t,rfl⟩:=r;exact call_range_1 (KH I1 (by omega) (by omega) q1 q2 (by simpa using q))
noncomputable def akv (wi:TI)(g:TG)(tb:TS):TS:=λD σ H=>wi σ H λJ H1=>∃W:Nat->Nat->St->Hp->Prop,(∃m,W 0 m σ H1)/\∀i m σ H,W i m σ H ->
 (J.stop i H/\D.nx σ H)\/(J.go i H/\∃N:St->Hp->Prop,(∀dP H',N dP H'->∃m',m' < m/\W (i+1) m' dP H')/\∀x H',J.yld i H x H'->g x σ H' λvU H2=>tb {D with nx:=N,ct:=N,bk:=D.nx} vU H2)
noncomputable def sL (fp:List Addr)(h:Heap):List (Addr×Obj):=fp.filterMap λb=>(h.get? b).map λo=>(b,o)
theorem ko (hb:b∈fp)(e:h.get? b=some o):(b,o)∈sL fp h:=List.mem_filterMap.mpr ⟨b,hb,by rw[e];rfl⟩
theorem HQ (hp:p∈sL fp h):p.1∈fp/\h.get? p.1=some p.2:=by
 obtain⟨b,hb,e⟩:=List.mem_filterMap.mp hp;cases q:h.get? b with
 |none=>rw[q] at e;cases e
 |some o =>
  rw[q] at e;have e':(b,o)=p:=zas e
  subst e';exact⟨hb,q⟩
theorem aI.KI (I:aI X ah σ H s)(hf:∀b∈fp,qd X ah H b)(ho:∀b∈fp,∃o,s.heap.get? b=some o/\∀v,o.data ≠ .cell v):aI X (ah++sL fp s.heap) σ H s:=
 I.FA λp hp=>(zbW.mp hp).elim (λz=>I.CU p (zaJ _ z)) λz=>by
  obtain⟨hb,e⟩:=HQ z;obtain⟨f0,f1,f2,_⟩:=hf p.1 hb;obtain⟨o,e',d⟩:=ho p.1 hb;rw[e] at e';cases e'
  exact⟨e,f0,f1,f2,d⟩
theorem aI.oQ (I:aI X (ah++pl) σ H s):aI X ah σ H s:=I.FA λp hp=>I.CU p (zaJ _ (zcg _ hp))
theorem YN (hp:PassesOwn (model X.prog X.w) X.A X.env X.xe)(hc:X.fM=true)(hi:PI X tg d8 wi)(hg:PG X tg g)(hb:wg X body tb)
  (hs:∀x,foldedSetIterable d8 X.env x=pure x:=by intro _;rfl):PS X (.For tg d8 body [] pos) (akv wi g tb):=by
 intro ah s σ H D I h;refine wpAny_For (cG (hi ah s σ H _ I h) λv s1 h1=>cG h1 λitv s2 h2=>?_) hs
 obtain⟨it,fp,tn,J,H2,e,I2,T,st2,f2,W,⟨m0,w0⟩,Dd⟩:=h2
 subst e;-- aka anN true of wW YO Qn ajp wW Qc
 have Df:∀{H':Hp},(∀b∈fp,H' b=none)->∀b∈fp,qd X ah H' b:=λhn b hb=>⟨hn b hb,(f2 b hb).2⟩
 refine codeAny_forLoop_any (λn s'=>∃i dP H',aI X ah dP H' s'/\tn i s'.heap/\(∀b∈fp,H' b=none)/\W i n dP H') ?_ m0 ⟨0,σ,H2,I2,st2,λb hb=>(f2 b hb).1,w0⟩
 rintro n s3 ⟨i,KA,H3,I3,st3,fr3,w3⟩
 rcases Dd i n KA H3 w3 with⟨stop,qn⟩|⟨go,N,hN,qc⟩
 ·refine zbX hp (cG (T.done X rfl rfl rfl hc i ah s3 KA H3 X.xe I3 (Df fr3) st3 stop) λr s4 ⟨hr,I4⟩=>?_)
  subst hr;exact zct ⟨KA,H3,I4,qn⟩
 ·refine zbX hp (cG (T.item X rfl rfl rfl hc i ah s3 KA H3 X.xe I3 (Df fr3) st3 go) λr s4 ⟨u,hr,h4⟩=>?_)
  subst hr;refine zbX hp (cG h4 λ_ s5 ⟨x,H5,I5,r5,y5,st5,fr5⟩=>?_)
  have I5':=I5.KI (Df fr5) (T.lC _ _ st5)
  refine zbX hp (cG (hg _ s5 KA H5 x u _ I5' r5 (qc x H5 y5)) λ_ s6 ⟨KJ,H6,I6,q6⟩=>?_)
  refine zbX hp (cG (hb _ s6 KJ H6 _ I6 q6) λf s7 q7=>?_)
  have again:∀{KL:St} {H7:Hp},aI X (ah++sL fp s5.heap) KL H7 s7->N KL H7->∃m,m<n/\∃i dP H',aI X ah dP H' s7/\tn i s7.heap/\(∀b∈fp,H' b=none)/\W i m dP H':=λ{KL H7} I7 n7=>by
   obtain⟨m',hm,w7⟩:=hN KL H7 n7;refine⟨m',hm,i+1,KL,H7,I7.oQ,T.keep _ _ _ st5 λb hb o e=>(I7.CU (b,o) (zaJ _ (zaJ _ (ko hb e)))).1,λb hb=>?_,w7⟩
   obtain⟨o,e,d⟩:=T.lC _ _ st5 b hb;exact (I7.CU (b,o) (zaJ _ (zaJ _ (ko hb e)))).2.1
  cases f with
  |next=>obtain⟨KL,H7,I7,n7⟩:=q7;exact again I7 n7
  |cont=>obtain⟨KL,H7,I7,n7⟩:=q7;exact again I7 n7
  |brk=>obtain⟨KL,H7,I7,q7⟩:=q7;exact⟨KL,H7,I7.oQ,q7⟩
  |ret v=>obtain⟨x7,KL,H7,I7,r7,q7⟩:=q7;exact⟨x7,KL,H7,I7.oQ,r7,q7⟩
noncomputable abbrev R2:=V->V->Hp->VK->Prop
noncomputable def jQ (X:Cx)(f:Value->Value->Sem Value)(r:R2):Prop:=
 ∀(ah:List (Addr×Obj)) (s:Shared) (σ:St) (H:Hp) (x y:V) (v u:Value) (Q:VK),aI X ah σ H s->bG x v->bG y u->r x y H Q ->
  wpAny (model X.prog X.w) X.A (f v u) (EP X ah σ Q) X.xe s
noncomputable def UnR (X:Cx)(f:Value->Sem Value)(r:V->Hp->VK->Prop):Prop:=
 ∀(ah:List (Addr×Obj)) (s:Shared) (σ:St) (H:Hp) (x:V) (v:Value) (Q:VK),aI X ah σ H s->bG x v->r x H Q ->
  wpAny (model X.prog X.w) X.A (f v) (EP X ah σ Q) X.xe s
noncomputable def ja (X:Cx)(f:Value)(r:List V->Hp->VK->Prop):Prop:=
 ∀(ah:List (Addr×Obj)) (s:Shared) (σ:St) (H:Hp) (xs:List V) (us:List Value) (Q:VK),aI X ah σ H s->bz xs us->r xs H Q ->
  wpAny (model X.prog X.w) X.A (call f us) (EP X ah σ Q) X.xe s
noncomputable def tOp (r:R2)(ta tb:TE):TE:=λσ H Q=>ta σ H λx H1=>tb σ H1 λy H2=>r x y H2 Q
noncomputable def tUn (r:V->Hp->VK->Prop)(ta:TE):TE:=λσ H Q=>ta σ H λx H1=>r x H1 Q
noncomputable def rI (C:Int->Int->Prop)(g:Int->Int->V):R2:=λx y H Q=>∃i j,x = .int i/\y = .int j/\C i j/\Q (g i j) H
noncomputable def Qo (g:Int->Int->V):R2:=λx y H Q=>∃i j,x = .int i/\y = .int j/\Q (g i j) H
noncomputable def rU (g:Int->V):V->Hp->VK->Prop:=λx H Q=>∃i,x = .int i/\Q (g i) H
theorem YQ (ha:PE X a ta)(hb:PE X b tb){ah:List (Addr×Obj)}{s:Shared}{σ:St}{H:Hp}{R:V->V->Hp->Prop}(I:aI X ah σ H s)
  (h:ta σ H λx H1=>tb σ H1 λy H2=>R x y H2) {Q:Value->Shared->Prop} {f:Value->Value->Sem Value}
  (hf:∀v u s2 x y H2,aI X ah σ H2 s2->bG x v->bG y u->R x y H2->wpAny (model X.prog X.w) X.A (f v u) Q X.xe s2):
  wpAny (model X.prog X.w) X.A (eval a X.env) (λv cI=>wpAny (model X.prog X.w) X.A (eval b X.env) (λu lW=>wpAny (model X.prog X.w) X.A (f v u) Q X.xe lW) X.xe cI) X.xe s:=by
 refine cG (ha ah s σ H _ I h) λv s1 ⟨x,H1,I1,r1,q1⟩=>?_
 refine cG (hb ah s1 σ H1 _ I1 q1) λu s2 ⟨y,H2,I2,r2,q2⟩=>?_
 exact hf v u s2 x y H2 I2 r1 r2 q2
theorem afa {op:Operator}{r:R2}(ho:jQ X (binaryOp op) r)(ha:PE X a ta)(hb:PE X b tb):PE X (.BinOp a op b pos) (tOp r ta tb):=by
 intro ah s σ H Q I h;exact wpAny_BinOp (YQ ha hb I h λv u s2 x y H2 I2 rx ry q=>ho ah s2 σ H2 x y v u Q I2 rx ry q)
theorem afb (ho:UnR X (unaryOp op) r)(ha:PE X a ta):PE X (.UnaryOp op a pos) (tUn r ta):=by
 intro ah s σ H Q I h;exact UnaryOp_ (cG (ha ah s σ H _ I h) λv s1 ⟨x,H1,I1,r1,q1⟩=>ho ah s1 σ H1 x v Q I1 r1 q1)
theorem opI {f:Value->Value->Sem Value}{C:Int->Int->Prop}{g:Int->Int->Int}
  (rule:∀(i j:Int) (t u:Tok) (s:Shared) (Q:Value->Shared->Prop) (E:Value->Shared->Prop),C i j->Q (.int (g i j) s.toks) {s with toks:=s.toks+1}->wpAny (model X.prog X.w) X.A (f (.int i t) (.int j u)) Q E s):
  jQ X f (rI C λi j=>.int (g i j)):=by
 intro ah s σ H x y v u Q I rx ry h;obtain⟨i,j,rfl,rfl,hc,q⟩:=h;obtain⟨t,rfl⟩:=rx;obtain⟨t',rfl⟩:=ry;exact rule i j t t' s _ _ hc ⟨.int (g i j),H,I.oK _,⟨_,rfl⟩,q⟩
theorem afc {f:Value->Value->Sem Value}{g:Int->Int->Int}
  (rule:∀(i j:Int) (t u:Tok) (s:Shared) (Q:Value->Shared->Prop) (E:Value->Shared->Prop),Q (.int (g i j) s.toks) {s with toks:=s.toks+1}->wpAny (model X.prog X.w) X.A (f (.int i t) (.int j u)) Q E s):
  jQ X f (Qo λi j=>.int (g i j)):=by
 intro ah s σ H x y v u Q I rx ry h;obtain⟨i,j,rfl,rfl,q⟩:=h;obtain⟨t,rfl⟩:=rx;obtain⟨t',rfl⟩:=ry;exact rule i j t t' s _ _ ⟨.int (g i j),H,I.oK _,⟨_,rfl⟩,q⟩
theorem Qp {f:Value->Value->Sem Value}{g:Int->Int->Bool}
  (rule:∀(i j:Int) (t u:Tok) (s:Shared) (Q:Value->Shared->Prop) (E:Value->Shared->Prop),Q (.bool (g i j)) s->wpAny (model X.prog X.w) X.A (f (.int i t) (.int j u)) Q E s):
  jQ X f (Qo λi j=>.bl (g i j)):=by
 intro ah s σ H x y v u Q I rx ry h;obtain⟨i,j,rfl,rfl,q⟩:=h;obtain⟨t,rfl⟩:=rx;obtain⟨t',rfl⟩:=ry;exact rule i j t t' s _ _ ⟨.bl (g i j),H,I,rfl,q⟩
noncomputable def akx (i j:Int):Prop:=0<j/\j<1073741824
noncomputable def YR (i j:Int):Prop:=(-(2 ^ 64)<i/\i<2 ^ 64)\/(-(2 ^ 64)<j/\j<2 ^ 64)
theorem YR.ok (h:YR i j):IntMulOk i j:=by
 rcases h with⟨h1,h2⟩|⟨h1,h2⟩
 ·exact .of_left (intBits_le_64 h1 h2)
 ·exact .of_right (intBits_le_64 h1 h2)
theorem YS:jQ X (binaryOp .Add) (Qo λi j=>.int (i+j)):=afc λ_ _ _ _ _ _ _ q=>add_int q
theorem YT:jQ X (binaryOp .Sub) (Qo λi j=>.int (i - j)):=afc λ_ _ _ _ _ _ _ q=>sub_int q
theorem YU:jQ X (binaryOp .Mult) (rI YR λi j=>.int (i * j)):=opI λ_ _ _ _ _ _ _ hc q=>mul_int q hc.ok
theorem Qq:jQ X (binaryOp .FloorDiv) (rI akx λi j=>.int (i / j)):=opI λi j _ _ _ _ _ hc q=>by
 have h1:(0:Int)<j:=hc.1
 have h2:j<1073741824:=hc.2
 exact floordiv_int (by omega) (by rw[Int.fdiv_eq_ediv_of_nonneg i (by omega)];exact q) (.inl (PyProof.noPylong_small (by omega)))
theorem YV:jQ X (binaryOp .Mod) (rI (λ_ j=>0<j) λi j=>.int (i % j)):=opI λi j _ _ _ _ _ hc q=>by
 have h1:(0:Int)<j:=hc
 exact mod_int' (by omega) (by rw[Int.fmod_eq_emod_of_nonneg i (by omega)];exact q)
theorem unI {f:Value->Sem Value}{g:Int->Int}
  (rule:∀(i:Int) (t:Tok) (s:Shared) (Q:Value->Shared->Prop) (E:Value->Shared->Prop),Q (.int (g i) s.toks) {s with toks:=s.toks+1}->wpAny (model X.prog X.w) X.A (f (.int i t)) Q E s):
  UnR X f (rU λi=>.int (g i)):=by
 intro ah s σ H x v Q I rx h;obtain⟨i,rfl,q⟩:=h;obtain⟨t,rfl⟩:=rx;exact rule i t s _ _ ⟨.int (g i),H,I.oK _,⟨_,rfl⟩,q⟩
theorem YW:UnR X (unaryOp .USub) (rU λi=>.int (-i)):=unI λ_ _ _ _ _ q=>neg_int q
noncomputable def YX:V->V->Bool
 |.bw,.bw=>true|.bw,.int _=>true|.int _,.bw=>true|.bw,.bl _=>true|.bl _,.bw=>true|.bw,.str _=>true|.str _,.bw=>true
 |.int _,.int _=>true|.bl _,.bl _=>true|.str _,.str _=>true|.J5 _,.J5 _=>true
 |.int _,.str _=>true|.str _,.int _=>true|.bl _,.str _=>true|.str _,.bl _=>true
 |_,_=>false
noncomputable def rEq:R2:=λx y H Q=>YX x y=true/\Q (.bl (decide (x=y))) H
noncomputable def rNe:R2:=λx y H Q=>YX x y=true/\Q (.bl (!decide (x=y))) H
theorem FH:decide (V.int i=V.int j)=(i == j):=by
 rw[zaK];simp
theorem Dg:decide (V.bl i=V.bl j)=(i == j):=by
 rw[zaK];simp
theorem FI:decide (V.str i=V.str j)=(i == j):=by
 rw[zaK];simp
theorem FJ:decide (V.J5 i=V.J5 j)=(i.toList == j.toList):=by
 rw[zaK];cases i;cases j;simp
theorem bR (I:aI X ah σ H s)(q:Q (.bl k) H)(e:k=k'):EP X ah σ Q (.bool k') s:=by
 subst e;exact⟨.bl k,H,I,rfl,q⟩
theorem afd:jQ X (compareOp .Eq) rEq:=by
 intro ah s σ H x y v u Q I rx ry h;obtain⟨hs,q⟩:=h;cases x with
 |bw =>
  cases rx;cases y with
  |bw=>cases ry;exact PySem.EqNone.eq_none_none (bR I q (by simp))
  |bl j=>cases ry;exact PySem.EqNone.eq_none_bool (bR I q (by simp))
  |int j=>obtain⟨t',rfl⟩:=ry;exact PySem.EqNone.eq_none_int (bR I q (by simp))
  |str j=>obtain⟨t',rfl⟩:=ry;exact PySem.EqNone.eq_none_str (bR I q (by simp))
  |_=>exact absurd (show false=true from hs) zag
 |bl i =>
  cases rx;cases y with
  |bw=>cases ry;exact PySem.EqNone.eq_bool_none (bR I q (by simp))
  |bl j=>cases ry;exact eq_bool (bR I q Dg)
  |str j=>obtain⟨t',rfl⟩:=ry;exact PySem.EqMixed.eq_bool_str (bR I q (by simp))
  |_=>exact absurd (show false=true from hs) zag
 |int i =>
  obtain⟨t,rfl⟩:=rx;cases y with
  |bw=>cases ry;exact PySem.EqNone.eq_int_none (bR I q (by simp))
  |int j=>obtain⟨t',rfl⟩:=ry;exact eq_int (bR I q FH)
  |str j=>obtain⟨t',rfl⟩:=ry;exact PySem.EqMixed.eq_int_str (bR I q (by simp))
  |_=>exact absurd (show false=true from hs) zag
 |str i =>
  obtain⟨t,rfl⟩:=rx;cases y with
  |bw=>cases ry;exact PySem.EqNone.eq_str_none (bR I q (by simp))
  |bl j=>cases ry;exact PySem.EqMixed.eq_str_bool (bR I q (by simp))
  |int j=>obtain⟨t',rfl⟩:=ry;exact PySem.EqMixed.eq_str_int (bR I q (by simp))
  |str j=>obtain⟨t',rfl⟩:=ry;exact eq_str (bR I q FI)
  |_=>exact absurd (show false=true from hs) zag
 |J5 i =>
  obtain⟨t,rfl⟩:=rx;cases y with
  |J5 j=>obtain⟨t',rfl⟩:=ry;exact PySem.W.eq_bytes (bR I q FJ)
  |_=>exact absurd (show false=true from hs) zag
 |_=>cases y<;>exact absurd (show false=true from hs) zag
theorem afe:jQ X (compareOp .NotEq) rNe:=by
 intro ah s σ H x y v u Q I rx ry h;obtain⟨hs,q⟩:=h;cases x with
 |bw =>
  cases rx;cases y with
  |bw=>cases ry;exact PySem.EqNone.ne_none_none (bR I q (by simp))
  |bl j=>cases ry;exact PySem.EqNone.ne_none_bool (bR I q (by simp))
  |int j=>obtain⟨t',rfl⟩:=ry;exact PySem.EqNone.ne_none_int (bR I q (by simp))
  |str j=>obtain⟨t',rfl⟩:=ry;exact PySem.EqNone.ne_none_str (bR I q (by simp))
  |_=>exact absurd (show false=true from hs) zag
 |bl i =>
  cases rx;cases y with
  |bw=>cases ry;exact PySem.EqNone.ne_bool_none (bR I q (by simp))
  |bl j=>cases ry;exact ne_bool (bR I q (congrArg not Dg))
  |str j=>obtain⟨t',rfl⟩:=ry;exact PySem.EqMixed.ne_bool_str (bR I q (by simp))
  |_=>exact absurd (show false=true from hs) zag
 |int i =>
  obtain⟨t,rfl⟩:=rx;cases y with
  |bw=>cases ry;exact PySem.EqNone.ne_int_none (bR I q (by simp))
  |int j=>obtain⟨t',rfl⟩:=ry;exact ne_int (bR I q (congrArg not FH))
  |str j=>obtain⟨t',rfl⟩:=ry;exact PySem.EqMixed.ne_int_str (bR I q (by simp))
  |_=>exact absurd (show false=true from hs) zag
 |str i =>
  obtain⟨t,rfl⟩:=rx;cases y with
  |bw=>cases ry;exact PySem.EqNone.ne_str_none (bR I q (by simp))
  |bl j=>cases ry;exact PySem.EqMixed.ne_str_bool (bR I q (by simp))
  |int j=>obtain⟨t',rfl⟩:=ry;exact PySem.EqMixed.ne_str_int (bR I q (by simp))
  |str j=>obtain⟨t',rfl⟩:=ry;exact ne_str (bR I q (congrArg not FI))
  |_=>exact absurd (show false=true from hs) zag
 |J5 i =>
  obtain⟨t,rfl⟩:=rx;cases y with
  |J5 j=>obtain⟨t',rfl⟩:=ry;exact PySem.W.ne_bytes (bR I q (congrArg not FJ))
  |_=>exact absurd (show false=true from hs) zag
 |_=>cases y<;>exact absurd (show false=true from hs) zag
theorem afg:jQ X (compareOp .Lt) (Qo λi j=>.bl (decide (i<j))):=Qp λ_ _ _ _ _ _ _ q=>lt_int q
theorem afh:jQ X (compareOp .LtE) (Qo λi j=>.bl (decide (i<=j))):=Qp λ_ _ _ _ _ _ _ q=>le_int q
theorem afi:jQ X (compareOp .Gt) (Qo λi j=>.bl (decide (j<i))):=Qp λ_ _ _ _ _ _ _ q=>gt_int q
theorem afj:jQ X (compareOp .GtE) (Qo λi j=>.bl (decide (j<=i))):=Qp λ_ _ _ _ _ _ _ q=>ge_int q
theorem HS:jQ X (compareOp .In) (λx y H Q=>∃i j,x = .str i/\y = .str j/\Q (.bl (!(Builtin.Str.occurrences j i 0 j.length 1).isEmpty)) H):=by
 intro ah s σ H x y v u Q I rx ry h;obtain⟨i,j,rfl,rfl,q⟩:=h;obtain⟨t,rfl⟩:=rx;obtain⟨t',rfl⟩:=ry;exact in_str (bR I q rfl)
theorem YY:jQ X (compareOp .Is) (λx y H Q=>y = .bw/\Q (.bl (decide (x = .bw))) H):=by
 intro ah s σ H x y v u Q I rx ry h;obtain⟨rfl,q⟩:=h;cases ry;refine is_none_gen (bR I q ?_)
 cases x<;>first
  | (cases rx;rfl)
  | (obtain⟨t,rfl⟩:=rx;rfl)
theorem Qs:jQ X (compareOp .IsNot) (λx y H Q=>y = .bw/\Q (.bl (!decide (x = .bw))) H):=by
 intro ah s σ H x y v u Q I rx ry h;obtain⟨rfl,q⟩:=h;cases ry;refine isnot_none_gen (bR I q ?_)
 cases x<;>first
  | (cases rx;rfl)
  | (obtain⟨t,rfl⟩:=rx;rfl)
theorem iF (b:Expr)(h:op ≠ .In:=by decide)(h2:op ≠ .NotIn:=by decide):behindInMarks op b=false:=by
 have e1:(op == CmpOp.In)=false:=by cases op<;>first|rfl|exact absurd rfl h
 have e2:(op == CmpOp.NotIn)=false:=by cases op<;>first|rfl|exact absurd rfl h2
 cases b<;>simp[behindInMarks,e1,e2]
theorem Qt (ho:jQ X (compareOp op) r)(ha:PE X a ta)(hb:PE X b tb)(hm:behindInMarks op b=false):PE X (.Compare a [op] [b] pos) (tOp r ta tb):=by
 intro ah s σ H Q I h;exact wpAny_Compare1 (YQ ha hb I h λv u s2 x y H2 I2 rx ry q=>ho ah s2 σ H2 x y v u Q I2 rx ry q) hm
noncomputable def UL (t:TE):TT:=λσ H Q=>t σ H λx H'=>∃k,x = .bl k/\Q k H'
theorem Qu (ho:jQ X (compareOp op) r)(ha:PE X a ta)(hb:PE X b tb)(hm:behindInMarks op b=false):PT X (.Compare a [op] [b] pos) (UL (tOp r ta tb)):=by
 intro ah s σ H Q I h;refine wpAny_isTrue_Compare1 (cG (ha ah s σ H _ I h) λv s1 ⟨x,H1,I1,r1,q1⟩=>cG (hb ah s1 σ H1 _ I1 q1) λu s2 ⟨y,H2,I2,r2,q2⟩ =>
  cG (ho ah s2 σ H2 x y v u _ I2 r1 r2 q2) λc s3 ⟨z,H3,I3,r3,k,e,q3⟩=>?_) hm
 subst e;cases r3;exact zbb ⟨H3,I3,q3⟩
noncomputable def Dh (r r':R2)(ta tb tc:TE):TE:=λσ H Q=>ta σ H λx H1=>tb σ H1 λy H2=>r x y H2 λz H3=>∃k,z = .bl k /\
 (if k=true then tc σ H3 λw' H4=>r' y w' H4 Q else Q (.bl false) H3)
theorem KN (ho:jQ X (compareOp op) r)(rC:jQ X (compareOp KO) r')(ha:PE X a ta)(hb:PE X b tb)(hc:PE X c tc)
  (hm:lastMarks [op,KO] [b,c]=false:=by with_unfolding_all rfl):PE X (.Compare a [op,KO] [b,c] pos) (Dh r r' ta tb tc):=by
 intro ah s σ H Q I h;refine Compare_chain (cG (ha ah s σ H _ I h) λv s1 ⟨x,H1,I1,r1,q1⟩=>chain_link (cG (hb ah s1 σ H1 _ I1 q1) λu s2 ⟨y,H2,I2,r2,q2⟩ =>
  cG (ho ah s2 σ H2 x y v u _ I2 r1 r2 q2) λd s3 ⟨z,H3,I3,r3,k,e,q3⟩=>?_)) hm
 subst e;cases r3;refine zbb ?_
 cases k with
 |false=>exact ite_ff ⟨.bl false,H3,I3,rfl,q3⟩
 |true=>exact ite_tt (chain_last (cG (hc ah s3 σ H3 _ I3 q3) λw' s4 ⟨z',H4,I4,r4,q4⟩=>rC ah s4 σ H4 y z' u w' Q I4 r2 r4 q4))
theorem KP (ho:jQ X (compareOp op) r)(rC:jQ X (compareOp KO) r')(ha:PE X a ta)(hb:PE X b tb)(hc:PE X c tc)
  (hm:lastMarks [op,KO] [b,c]=false:=by with_unfolding_all rfl):PT X (.Compare a [op,KO] [b,c] pos) (UL (Dh r r' ta tb tc)):=by
 intro ah s σ H Q I h;refine isTrue_chain (cG (ha ah s σ H _ I h) λv s1 ⟨x,H1,I1,r1,q1⟩=>test_link (cG (hb ah s1 σ H1 _ I1 q1) λu s2 ⟨y,H2,I2,r2,q2⟩ =>
  cG (ho ah s2 σ H2 x y v u _ I2 r1 r2 q2) λd s3 ⟨z,H3,I3,r3,k,e,q3⟩=>?_)) hm
 subst e;cases r3;refine zbb ?_
 cases k with
 |false =>
  obtain⟨k',e',q'⟩:=q3;cases e';exact ite_ff ⟨H3,I3,q'⟩
 |true =>
  refine ite_tt (test_last (cG (hc ah s3 σ H3 _ I3 q3) λw' s4 ⟨z',H4,I4,r4,q4⟩=>cG (rC ah s4 σ H4 y z' u w' _ I4 r2 r4 q4) λd' s5 ⟨z2,H5,I5,r5,k2,e2,q5⟩=>?_))
  subst e2;cases r5;exact zbb ⟨H5,I5,q5⟩
theorem qf:(sizeLine:Nat)<2 ^ 63:=by rw[zdy];decide
theorem Di:jQ X (binaryOp .Add) (λx y H Q=>∃i j,x = .str i/\y = .str j/\i.length+j.length<=sizeLine/\Q (.str (i++j)) H):=by
 intro ah s σ H x y v u Q I rx ry h;obtain⟨i,j,rfl,rfl,hz,q⟩:=h;obtain⟨t,rfl⟩:=rx;obtain⟨t',rfl⟩:=ry;exact add_str (λt' tk=>⟨.str (i++j),H,I.oK _,⟨_,rfl⟩,q⟩) hz
theorem lX (r:bz [x] us):∃u,us=[u]/\bG x u:=by
 cases r with
 |cons r1 r2=>cases r2;exact⟨_,rfl,r1⟩
theorem wZ:ja X (.type "int") (λxs H Q=>(∃i,xs=[.int i]/\Q (.int i) H)\/∃k,xs=[.bl k]/\Q (.int (if k then 1 else 0)) H):=by
 intro ah s σ H xs us Q I r h;rcases h with⟨i,rfl,q⟩|⟨k,rfl,q⟩
 ·obtain⟨u,rfl,t,rfl⟩:=lX r
  exact call_int_int ⟨.int i,H,I,⟨_,rfl⟩,q⟩
 ·obtain⟨u,rfl,r1⟩:=lX r
  cases r1;exact call_int_bool ⟨.int (if k then 1 else 0),H,I.oK _,⟨_,rfl⟩,q⟩
structure Dl (h:Heap) (x dx C:Addr) (mA:Str->Option Value):Prop where
 lC:h.get? x=some (PySem.W.instObj C dx)
 ns:h.Ns1 dx mA
 ne:dx≠x
theorem w9 {h:Heap}{dx:Addr}{mA:Str->Option Value}(n:h.Ns1 dx mA):∃od,h.get? dx=some od/\∀name,PySem.W.lookIn name od=some (mA name):=by
 obtain⟨o,es,ep,ho,hd,hk,_,hm⟩:=n;refine⟨o,ho,λname=>?_⟩
 have e:=hm name;unfold nsFind findBy at e;rw[<-Array.find?_toList] at e;unfold PySem.W.lookIn;rw[hd];dsimp only;split
 ·rename_i y q
  rw[q] at e;exact congrArg some e
 ·rename_i q
  rw[q] at e;have a:es.toList.any (·.refKey)=false:=by
   rw[List.any_eq_false];intro y hy;obtain⟨z,t,KQ⟩:=hk y (Array.mem_toList_iff.mp hy)
   simp[DictEntry.refKey,KQ]
  have a':¬ es.toList.any (·.refKey)=true:=by rw[a];exact zag
  rw[if_neg a'];exact congrArg some e
theorem Dl.Qv (I:Dl h x dx C mA):∃od,PySem.W.InstAt h x (PySem.W.instObj C dx) C (some od)/\∀name,PySem.W.lookIn name od=some (mA name):=
 let ⟨od,ho,hl⟩:=w9 I.ns
 ⟨od,⟨I.lC,rfl,rfl,ho⟩,hl⟩
section
variable {prog:Program}{w:World}{A:Around}{E:Value->Shared->Prop}{s:Shared}{K:PySem.W.Frag}{x dx C f:Addr}{mA:Str->Option Value}{name:Str}{v:Value}
theorem Qw (X:K.In s.heap)(I:Dl s.heap x dx C mA)(hg:PySem.W.plainGet K C name=true)(hh:PySem.W.hasDictIn K C=true)
  (ha:PySem.W.findIn K (.ref C) name=some none) (hv:mA name=some v) (hv':PySem.W.handedIn v=true) (h:Q v {s with toks:=s.toks+1}):
  wpAny (model prog w) A (getAttr (.ref x) name apt) Q E s:=by
 obtain⟨od,J,hl⟩:=I.Qv;exact PySem.W.get_value X J (zds hg).1 (PySem.W.findObj_own hh ha rfl (by rw[hl,hv])) hv' h
theorem KR (X:K.In s.heap)(I:Dl s.heap x dx C mA)(hg:PySem.W.plainGet K C name=true)
  (hf:PySem.W.findIn K (.ref C) name=some (some (.ref f))) (ht:PySem.W.isFn K (.ref f)=true) (hv:mA name=none) (h:Q (.ref f,[.ref x]) s):
  wpAny (model prog w) A (getMethod (.ref x) name pl) Q E s:=by
 obtain⟨od,J,hl⟩:=I.Qv;exact PySem.W.method_fn X J (zds hg).1 (zds hg).2 hf (beq_iff_eq.mp ht) (by show (PySem.W.lookIn name od).map (·.isSome)=some false;rw[hl,hv];rfl) h
theorem Qx (X:K.In s.heap)(I:Dl s.heap x dx C mA)
  (hs:PySem.W.findIn K (.ref C) "__setattr__"=some (some (.builtin "object.__setattr__"))) (hp:PySem.W.plainOver K C=true) (ht:PySem.W.takerIn K C name=some none) (hh:PySem.W.hasDictIn K C=true)
  (hw:PySem.Within mA ns) (hsz:ns.length<=sizeLine)
  (h:∀h',Dl h' x dx C (λy=>if y=name then some v else mA y)->Heap.SameBut dx s.heap h'->Q () {s with heap:=h',toks:=s.toks+2}):
  wpAny (model prog w) A (setAttr (.ref x) name v) Q E s:=by
 obtain⟨od,J,hl⟩:=I.Qv;refine zfb X J hs (PySem.W.osa_open (s:={s with toks:=s.toks+1}) (r:=none) X J hp ht λb=>?_)
 obtain⟨cd,hc,UI⟩:=PySem.W.any_some hh;have hx:s.heap.get? x=some ⟨.ref C,some dx,.plain,#[]⟩:=I.lC
 refine zaa (zad (zaa (zaa (zeu hx (zaa (zbB (s:={s with toks:=s.toks+1}) (zcH X hc) ?_))))))
 rw[UI];refine zad (a:=some dx) (zaa (zad (zaa ?_)))
 refine wpAny_nsSet1 (s:={s with toks:=s.toks+1}) I.ns λh' PZ J6=>?_
 obtain⟨oD,esD,epD,hoD,YZ,hcD⟩:=PZ.count (PySem.Within.cons name v hw)
 refine zaa (zdT hoD (by rw[YZ];exact zdU (zai hcD (by rw[zav];omega))) ?_)
 exact zad (h _ ⟨(J6.2 _ (zbj I.ne)).trans I.lC,PZ,I.ne⟩ J6)
theorem KS (X:K.In s.heap)(hm:PySem.W.makesIn K C=true)
  (hi:PySem.W.findIn K (.ref C) "__init__"=some (some (.ref f))) (hf:PySem.W.typeIn K (.ref f)=some (.type "function"))
  (h:codeAny (model prog w) (A.under (.builtin "type.__call__" ⟨.ref C::vs,kw⟩)) (.call (.ref f) ⟨.ref (s.heap.objs.size+1)::vs,kw⟩) (PySem.W.InitBack (s.heap.objs.size+1) R)
   {s with heap:=(s.heap.push PySem.W.emptyDict).push (PySem.W.instObj C s.heap.objs.size)}):
  codeAny (model prog w) A (.call (.ref C) ⟨vs,kw⟩) R s:=by
 obtain⟨hh,g,d,t,os⟩:=s;exact PySem.W.make_core (PySem.W.makes_of X hm) (zdh X hi) (λself=>PySem.W.bind_fn X self hf) (.inl rfl) h
end
noncomputable def gA (f:Str)(v:V):List (Str×V)->List (Str×V)
 |[]=>[(f,v)]
 | (g,x)::r=>if g=f then (g,v)::r else (g,x)::gA f v r
theorem lY (f g:Str)(v:V):∀fs:List (Str×V),(gA f v fs).lookup g=if g=f then some v else fs.lookup g
 |[]=>by
  show List.lookup g [(f,v)]=_
  by_cases h:g=f
  ·have hb:(g == f)=true:=beq_iff_eq.mpr h
   simp only[List.lookup,hb,if_pos h]
  ·have hb:(g == f)=false:=beq_eq_false_iff_ne.mpr h
   simp only[List.lookup,hb,if_neg h]
 | (k,x)::r=>by
  have ih:=lY f g v r;rw[show gA f v ((k,x)::r)=(if k=f then (k,v)::r else (k,x)::gA f v r) from rfl];by_cases hk:k=f
  ·rw[if_pos hk]
   by_cases h:g=k
   ·have hb:(g == k)=true:=beq_iff_eq.mpr h
    simp only[List.lookup,hb,if_pos (h.trans hk)]
   ·have hb:(g == k)=false:=beq_eq_false_iff_ne.mpr h
    simp only[List.lookup,hb,if_neg (λe:g=f=>h (e.trans hk.symm))]
  ·rw[if_neg hk]
   by_cases h:g=k
   ·have hb:(g == k)=true:=beq_iff_eq.mpr h
    simp only[List.lookup,hb,if_neg (λe:g=f=>hk (h.symm.trans e))]
   ·have hb:(g == k)=false:=beq_eq_false_iff_ne.mpr h
    simp only[List.lookup,hb];exact ih
theorem jT (f:Str)(v:V):∀fs:List (Str×V),f∈(gA f v fs).map (·.1)/\∀g,g∈fs.map (·.1)->g∈(gA f v fs).map (·.1)
 |[]=>⟨by simp[gA],λg h=>by simp at h⟩
 | (k,x)::r=>by
  obtain⟨i1,i2⟩:=jT f v r;rw[show gA f v ((k,x)::r)=(if k=f then (k,v)::r else (k,x)::gA f v r) from rfl];by_cases hk:k=f
  ·rw[if_pos hk]
   subst hk;exact⟨by simp,λg h=>by simpa using h⟩
  ·rw[if_neg hk]
   refine⟨?_,λg h=>?_⟩
   ·rw[zau]
    exact zaP _ i1
   ·rw[zau] at h ⊢
    rcases zap.mp h with e|e
    ·exact zap.mpr (.inl e)
    ·exact zaP _ (i2 g e)
theorem qK (f:Str)(v:V):∀fs:List (Str×V),(gA f v fs).length<=fs.length+1
 |[]=>by simp[gA]
 | (k,x)::r=>by
  have ih:=qK f v r;rw[show gA f v ((k,x)::r)=(if k=f then (k,v)::r else (k,x)::gA f v r) from rfl];by_cases hk:k=f
  ·rw[if_pos hk,zav,zav];omega
  ·rw[if_neg hk,zav,zav];omega
theorem i_.yP (r:i_ (some v) o):∃u,o=some u/\bG v u:=by
 cases o with
 |none=>exact (show False from r).elim
 |some u=>exact⟨u,rfl,r⟩
theorem i_.Qy (r:i_ none o):o=none:=by
 cases o with
 |none=>rfl
 |some u=>exact (show False from r).elim
theorem HU (r:bG v u):PySem.W.handedIn u=true:=by
 cases v with
 |bw=>cases (show u=Value.none from r);rfl
 |bl b=>cases (show u=Value.bool b from r);rfl
 |int i=>obtain⟨t,e⟩:=(show ∃t,u=Value.int i t from r);cases e;rfl
 |str x=>obtain⟨t,e⟩:=(show ∃t,u=Value.str x t from r);cases e;rfl
 |J5 b=>obtain⟨t,e⟩:=(show ∃t,u=Value.bytes b t from r);cases e;rfl
 |Yi b=>obtain⟨t,e⟩:=(show ∃t,u=Value.float b t from r);cases e;rfl
 |ref a=>cases (show u=Value.ref a from r);rfl
 |ty n=>cases (show u=Value.type n from r);rfl
theorem rV (cg:nI P w H h)(e:H a=some (.fE C dx fs)):∃mA,Dl h a dx C mA/\(∀f,i_ (fs.lookup f) (mA f))/\PySem.Within mA (fs.map (·.1))/\fs.length<=1000/\H dx=some (.sD a):=by
 obtain⟨d,z,ne,ob,mA,n,r,q⟩:=(show bY P w H h a (.fE C dx fs) from cg a _ e)
 exact⟨mA,⟨ob,n,ne⟩,r,q,z,d⟩
structure vV (K:PySem.W.Frag) (C:Addr):Prop where
 pg:PySem.W.plainGet K C Str.empty=true
 hd:PySem.W.hasDictIn K C=true
 po:PySem.W.plainOver K C=true
 sa:PySem.W.findIn K (.ref C) "__setattr__"=some (some (.builtin "object.__setattr__"))
theorem vV.get {K:PySem.W.Frag}{C:Addr}(c:vV K C)(f:Str):PySem.W.plainGet K C f=true:=c.pg
noncomputable def cy (K:PySem.W.Frag)(C:Addr)(f:Str):Prop:=PySem.W.findIn K (.ref C) f=some none
theorem cy.afl {K:PySem.W.Frag}{C:Addr}{f:Str}(n:cy K C f):PySem.W.takerIn K C f=some none:=by
 unfold PySem.W.takerIn;rw[show PySem.W.findIn K (.ref C) f=some none from n];rfl
structure dD (K:PySem.W.Frag) (C:Addr) (m:Str) (f:Addr):Prop where
 sM:PySem.W.findIn K (.ref C) m=some (some (.ref f))
 fn:PySem.W.isFn K (.ref f)=true
 kp:PySem.W.keepIn K (.ref f)=true
theorem sN (I:aI X ah σ H s)(e:H a=some (.fE C dx fs))(c:vV X.K C)(n:cy X.K C f)(l:fs.lookup f=some v)
  (h:∀u s',aI X ah σ H s'->bG v u->Q u s'):wpAny (model X.prog X.w) A (getAttr (.ref a) f b) Q E s:=by
 obtain⟨mA,O,r,_,_,_⟩:=rV I.cg e;obtain⟨u,hu,ru⟩:=i_.yP (v:=v) (o:=mA f) (by rw[<-l];exact r f)
 exact Qw I.kj O (c.get f) c.hd n hu (HU ru) (h u _ (I.oK _) ru)
theorem nV (I:aI X ah σ H s)(e:H a=some (.fE C dx fs))(c:vV X.K C)(k:dD X.K C m g)(l:fs.lookup m=none)
  (h:Q (.ref g,[.ref a]) s):wpAny (model X.prog X.w) A (getMethod (.ref a) m pl) Q E s:=by
 obtain⟨mA,O,r,_,_,_⟩:=rV I.cg e;have hn:mA m=none:=i_.Qy (by rw[<-l];exact r m)
 exact KR I.kj O (c.get m) k.sM k.fn hn h
theorem sO (I:aI X ah σ H s)(e:H a=some (.fE C dx fs))(c:vV X.K C)(n:cy X.K C f)(hl:fs.length<1000)(ry:bG y u)
  (h:∀s',aI X ah σ (br H a (.fE C dx (gA f y fs))) s'->Q () s'):wpAny (model X.prog X.w) A (setAttr (.ref a) f u) Q E s:=by
 obtain⟨mA,O,r,wi,_,ho⟩:=rV I.cg e;have hz:(fs.map (·.1)).length<=sizeLine:=by rw[zaf,zdy];omega
 refine Qx I.kj O c.sa c.po n.afl c.hd wi hz λh' O' sb=>h _ ?_
 have hd:∃o,h'.get? dx=some o:=let ⟨o,_,_,e',_⟩:=O'.ns;⟨o,e'⟩
 refine I.jy (x:=a) (e:=dx) (by rw[e];exact True.intro) (.inr ho) (λb q hb z=>(sb.2 b hb).trans z) hd ?_
 refine⟨by rw[aq O.ne];exact ho,?_,O.ne,O'.lC,_,O'.ns,λg=>?_,λg hg=>?_⟩
 ·have:=qK f y fs;omega
 ·show i_ ((gA f y fs).lookup g) (if g=f then some u else mA g)
  rw[lY];by_cases q:g=f
  ·rw[if_pos q,if_pos q];exact ry
  ·rw[if_neg q,if_neg q];exact r g
 ·by_cases q:g=f
  ·rw[q];exact (jT f y fs).1
  ·refine (jT f y fs).2 g (wi g λz=>hg ?_)
   show (if g=f then some u else mA g)=none
   rw[if_neg q];exact z
theorem aI.made (I:aI X ah σ H s):aI X ah σ (br (br H s.heap.objs.size (.sD (s.heap.objs.size+1))) (s.heap.objs.size+1) (.fE C s.heap.objs.size []))
  {s with heap:=(s.heap.push PySem.W.emptyDict).push (PySem.W.instObj C s.heap.objs.size)}:=by
 have e1:(s.heap.push PySem.W.emptyDict).get? s.heap.objs.size=some PySem.W.emptyDict:=zan s.heap rfl
 have e2:((s.heap.push PySem.W.emptyDict).push (PySem.W.instObj C s.heap.objs.size)).get? (s.heap.objs.size+1)=some (PySem.W.instObj C s.heap.objs.size):=by
  have:=zan (s.heap.push PySem.W.emptyDict) (o:=PySem.W.instObj C s.heap.objs.size) rfl
  rwa[zbN] at this
 have e3:(s.heap.push PySem.W.emptyDict).Ns s.heap.objs.size (λ_=>none):=⟨PySem.W.emptyDict,#[],_,e1,rfl,(λe he=>absurd he (by simp)),λ_=>rfl⟩
 have I1:=I.ju (a:=s.heap.objs.size) (o:=.sD (s.heap.objs.size+1)) (h':=s.heap.push PySem.W.emptyDict) (t':=s.toks) (λb u q=>zab _ q) (zah _) ⟨_,e1⟩
 refine I1.ju (a:=s.heap.objs.size+1) (o:=.fE C s.heap.objs.size []) (t':=s.toks) (λb u q=>zab _ q) (Nat.le_of_eq (zbN _ _)) ?_
 have ne:s.heap.objs.size≠s.heap.objs.size+1:=zaq (zbh _)
 refine⟨by rw[aq ne,av],zcA _,ne,e2,λ_=>none,(Heap.Ns1.of_empty e3).at λo q=>zab _ q,λ_=>True.intro,λy hy=>absurd rfl hy⟩
theorem Qz (hb:attributeBase e f env (eval e env)=eval e env)
  (h:wpAny (model prog w) A (eval e env) (λo cI=>wpAny (model prog w) A (getAttr o f true) Q E cI) E s):wpAny (model prog w) A (eval (.Attribute e f pos) env) Q E s:=
 Attribute_any_ h (by rw[arm_eval_Attribute,hb])
noncomputable def akz (K:PySem.W.Frag)(ta:TE)(f:Str):TE:=λσ H Q=>ta σ H λx H1=>∃a C dx fs v,x = .ref a/\H1 a=some (.fE C dx fs)/\vV K C/\cy K C f/\fs.lookup f=some v/\Q v H1
noncomputable def akA (K:PySem.W.Frag)(ta tv:TE)(f:Str):TS:=λD σ H=>tv σ H λy H1=>ta σ H1 λx H2=>∃a C dx fs,x = .ref a/\H2 a=some (.fE C dx fs)/\vV K C/\cy K C f/\fs.length<1000 /\
 D.nx σ (br H2 a (.fE C dx (gA f y fs)))
noncomputable def QA (X:Cx)(op:Operator)(rd:V->V->Hp->VK->Prop):Prop:=
 ∀(ah:List (Addr×Obj)) (s:Shared) (σ:St) (H:Hp) (x y:V) (u v:Value) (Q:VK),aI X ah σ H s->bG x u->bG y v->rd x y H Q->wpAny (model X.prog X.w) X.A (inplaceOp op u v) (EP X ah σ Q) X.xe s
noncomputable def QB (K:PySem.W.Frag)(ta tv:TE)(rd:V->V->Hp->VK->Prop)(f:Str):TS:=λD σ H=>ta σ H λx H1=>∃a C dx fs v,x = .ref a/\H1 a=some (.fE C dx fs)/\vV K C/\cy K C f/\fs.lookup f=some v /\
 tv σ H1 λy H2=>rd v y H2 λz H3=>∃dx' J7,H3 a=some (.fE C dx' J7)/\J7.length<1000/\D.nx σ (br H3 a (.fE C dx' (gA f z J7)))
theorem Y0 (he:PE X e ta)(hb:attributeBase e f X.env (eval e X.env)=eval e X.env):PE X (.Attribute e f pos) (akz X.K ta f):=by
 intro ah s σ H Q I h;refine Qz hb (cG (he ah s σ H _ I h) λu s1 ⟨x,H1,I1,rx,a,C,dx,fs,v,ex,ea,c,n,l,q⟩=>?_)
 subst ex;obtain rfl:u=Value.ref a:=rx
 exact sN I1 ea c n l λu' s2 I2 ru=>⟨v,H1,I2,ru,q⟩
theorem Y3 (ha:PE X o ta)(hv:PE X value tv)(hs:swapsWith value (some (.Attribute o f jS)) pos.line X.env=pure false):PS X (.Assign [.Attribute o f jS] value pos) (akA X.K ta tv f):=by
 intro ah s σ H D I h;refine zcq (cG (hv ah s σ H _ I h) λu s1 ⟨y,H1,I1,ry,q⟩=>cG (ha ah s1 σ H1 _ I1 q) λov s2 ⟨x,H2,I2,rx,a,C,dx,fs,ex,ea,c,n,l,q2⟩=>?_) hs
 subst ex;obtain rfl:ov=Value.ref a:=rx
 exact sO I2 ea c n l ry λs3 I3=>⟨σ,_,I3,q2⟩
theorem HV (ha:PE X o ta)(hv:PE X value tv)(hop:QA X op rd):PS X (.AugAssign (.Attribute o f apu) op value pos) (QB X.K ta tv rd f):=by
 intro ah s σ H D I h;refine wpAny_AugAssign_AttributeAny (cG (ha ah s σ H _ I h) λov s1 ⟨x,H1,I1,rx,a,C,dx,fs,v,ex,ea,c,n,l,q⟩=>?_)
 subst ex;obtain rfl:ov=Value.ref a:=rx
 refine sN I1 ea c n l λu s2 I2 ru=>cG (hv ah s2 σ H1 _ I2 q) λw3 s3 ⟨y,H2,I3,ry,q3⟩=>cG (hop ah s3 σ H2 v y u w3 _ I3 ru ry q3) λw4 s4 ⟨z,H3,I4,rz,dx',J7,ea',l',q4⟩=>?_
 exact sO I4 ea' c n l' rz λs5 I5=>⟨σ,_,I5,q4⟩
noncomputable def akC:V->V->Hp->VK->Prop:=λx y H Q=>∃i j,x = .int i/\y = .int j/\Q (.int (i+j)) H
theorem Y4:QA X .Add akC:=by
 rintro ah s σ H x y u v Q I rx ry ⟨i,j,rfl,rfl,q⟩
 obtain⟨t,rfl⟩:=(show ∃t,u=Value.int i t from rx)
 obtain⟨t',rfl⟩:=(show ∃t',v=Value.int j t' from ry)
 exact PyProof.Rows.iadd_int ⟨.int (i+j),H,I.oK _,⟨_,rfl⟩,q⟩
section
variable {X:Cx}{ah:List (Addr×Obj)}{σ:St}{H:Hp}{s:Shared}{A:Around}{E:Value->Shared->Prop}{Q:Value->Shared->Prop}{c:Value}{b:Bool}
inductive oR (K:PySem.W.Frag) (H:Hp):V->Value->Prop where
 |bw:oR K H .bw (.type "NoneType")
 |bl (x:Bool):oR K H (.bl x) (.type "bool")
 |int (i:Int):oR K H (.int i) (.type "int")
 |str (x:Str):oR K H (.str x) (.type "str")
 |Yi (x:UInt64):oR K H (.Yi x) (.type "float")
 |aV {a:Addr} {xs:List V} (e:H a=some (.aV xs)):oR K H (.ref a) (.type "list")
 |p_ {a:Addr} {o:Obj} {xs:List V} (e:H a=some (.p_ o (.aV xs))):oR K H (.ref a) (.type "list")
 |gp {a:Addr} {xs:List V} (e:H a=some (.gp xs)):oR K H (.ref a) (.type "tuple")
 |dK {a:Addr} {aJ:List (dz×V)} (e:H a=some (.dK aJ)):oR K H (.ref a) (.type "dict")
 |dT {a:Addr} {aJ:List (List dz×V)} (e:H a=some (.dT aJ)):oR K H (.ref a) (.type "dict")
 |fE {a C dx:Addr} {fs:List (Str×V)} (e:H a=some (.fE C dx fs)) (cl:vV K C) (ha:PySem.W.findIn K (.ref C) "__class__"=some (some (.builtin "object.__class__")))
   (hn:PySem.W.specialIn K (.builtin "object.__class__") "__get__"=some (some (.builtin "getset_descriptor.__get__"))) (htk:PySem.W.takesIn K (.builtin "object.__class__")=some true)
   (hm:PySem.W.mroIn K C (.type "object")=some true):oR K H (.ref a) (.ref C)
theorem HW (I:aI X ah σ H s)(rx:bG x u)(ty:oR X.K H x t)(e:PySem.W.kitOne X.K t c=some b)(h:∀tk,Q (.bool b) {s with toks:=tk}):
  wpAny (model X.prog X.w) A (call (.builtin "isinstance") [u,c]) Q E s:=by
 cases ty with
 |bw=>cases (show u=Value.none from rx);exact zbd PySem.W.kitx_none I.kj True.intro e (λz=>nomatch z) h
 |bl y=>cases (show u=Value.bool y from rx);exact zbd PySem.W.kitx_bool I.kj True.intro e (λz=>nomatch z) h
 |int i=>obtain⟨t,q⟩:=(show ∃t,u=Value.int i t from rx);cases q;exact zbd PySem.W.kitx_int I.kj True.intro e (λz=>nomatch z) h
 |str y=>obtain⟨t,q⟩:=(show ∃t,u=Value.str y t from rx);cases q;exact zbd PySem.W.kitx_str I.kj True.intro e (λz=>nomatch z) h
 |Yi y=>obtain⟨t,q⟩:=(show ∃t,u=Value.float y t from rx);cases q;exact zbd PySem.W.kitx_float I.kj True.intro e (λz=>nomatch z) h
 | @aV a xs ea =>
  cases (show u=Value.ref a from rx)
  obtain⟨_,_,n,_,h1⟩:=(show bY X.prog X.w H s.heap a (.aV xs) from I.cg a _ ea)
  exact zbd zfd I.kj ⟨_,h1,rfl⟩ e (λz=>nomatch z) h
 | @p_ a ob xs ea =>
  cases (show u=Value.ref a from rx)
  obtain⟨_,_,_,n,_,h1⟩:=(show bY X.prog X.w H s.heap a (.p_ ob (.aV xs)) from I.cg a _ ea)
  exact zbd zfd I.kj ⟨_,h1,rfl⟩ e (λz=>nomatch z) h
 | @gp a xs ea =>
  cases (show u=Value.ref a from rx)
  obtain⟨_,_,_,p⟩:=(show bY X.prog X.w H s.heap a (.gp xs) from I.cg a _ ea)
  obtain⟨o,h1,h2,_⟩:=p;exact zbd PySem.W.kitx_tuple I.kj ⟨o,h1,h2⟩ e (λz=>nomatch z) h
 | @dK a aJ ea =>
  cases (show u=Value.ref a from rx)
  obtain⟨_,_,vs,_,p⟩:=(show bY X.prog X.w H s.heap a (.dK aJ) from I.cg a _ ea)
  obtain⟨o,es,ep,h1,h2,_⟩:=p;exact zbd zfe I.kj ⟨o,h1,h2.1⟩ e (λz=>nomatch z) h
 | @dT a aJ ea =>
  cases (show u=Value.ref a from rx)
  obtain⟨_,_,xs,_,o,es,ep,h1,h2,_⟩:=(show bY X.prog X.w H s.heap a (.dT aJ) from I.cg a _ ea)
  exact zbd zfe I.kj ⟨o,h1,h2.1⟩ e (λz=>nomatch z) h
 | @fE a C dx fs ea cl ha hn htk hm =>
  cases (show u=Value.ref a from rx)
  obtain⟨mA,O,_⟩:=rV I.cg ea;obtain⟨od,J,_⟩:=O.Qv;exact zbd (PySem.W.kitx_own (cl.get _) cl.hd ha hn htk hm) I.kj J e (λz=>nomatch z) h
end
structure gP (k:Nat) (A:Around):Prop where
 hd:A.handled=none
 dp:A.depth+3 * k+5<recursionLimit
 un:A.units+16 * k+200<cLine
theorem gP.mono (r:gP k A)(h:j<=k):gP j A:=⟨r.hd,by have:=r.dp;omega,by have:=r.un;omega⟩
theorem gP.deeper (r:gP (k+1) A)(env:Env):gP k (A.deeper env):=
 ⟨r.hd,by have:=r.dp;show A.depth+1+3 * k+5<_;omega,by have:=r.un;show A.units+3+16 * k+200<_;omega⟩
theorem Dm {A:Around}{C:Addr}{us:List Value}{kw:List (Str×Value)}:(A.under (.builtin "type.__call__" ⟨.ref C::us,kw⟩)).depth=A.depth+1:=by
 first|rfl|simp[Around.under,Code.weight,Code.isCreation,Code.isGuard,Code.isCaller,Code.frames,Code.isFrame,afm]
theorem Dn {A:Around}{C:Addr}{us:List Value}{kw:List (Str×Value)}:(A.under (.builtin "type.__call__" ⟨.ref C::us,kw⟩)).units=A.units+1:=by
 first|rfl|simp[Around.under,Code.cUnits,Code.frames,Code.isFrame]
theorem gP.KU (r:gP (k+1) A)(C:Addr)(us:List Value)(kw:List (Str×Value)):gP k (A.under (.builtin "type.__call__" ⟨.ref C::us,kw⟩)):=
 ⟨r.hd,by have:=r.dp;rw[Dm];omega,by have:=r.un;rw[Dn];omega⟩
theorem gP.depth (r:gP k A):A.depth<recursionLimit:=by have:=r.dp;omega
noncomputable def afn:TA:=λ_ H Q=>Q [] H
noncomputable def afo (ta:TE)(tr:TA):TA:=λσ H Q=>ta σ H λx H1=>tr σ H1 λxs H2=>Q (x::xs) H2
theorem Dp:PA X [] afn:=λ_ _ _ _ H Q I h=>Calls.spliced_nil ⟨[],H,I,.nil,h⟩
theorem oS (ha:PE X e te)(hr:PA X es t)(hs:starEach (e::es) X.env=(false,eval e X.env)::starEach es X.env:=by rfl):PA X (e::es) (afo te t):=by
 intro pos ah s σ H Q I h;rw[hs];show wpAny _ _ (spliced ((false,eval e X.env)::backTo pos (starEach es X.env))) _ _ s
 refine zdA (cG (ha ah s σ H _ I h) λu s1 ⟨x,H1,I1,r1,q1⟩=>?_)
 exact cG (hr pos ah s1 σ H1 _ I1 q1) λus s2 ⟨xs,H2,I2,r2,q2⟩=>⟨x::xs,H2,I2,.cons r1 r2,q2⟩
noncomputable def akD (t:TA):TE:=λσ H Q=>t σ H λxs H1=>xs.length<=sizeLine/\∀p,H1 p=none->Q (.ref p) (br H1 p (.gp xs))
noncomputable def akE (t:TA):TE:=λσ H Q=>t σ H λxs H1=>xs.length<=sizeLine/\∀p,H1 p=none->Q (.ref p) (br H1 p (.aV xs))
theorem Y5 {x1}(h:PA X es t):PE X (.Tuple es x1 pos) (akD t):=by
 intro ah s σ H Q I hq;refine wpAny_Tuple_spliced (cG (h pos ah s σ H _ I hq) λus s1 ⟨xs,H1,I1,r,z,q⟩=>⟨by rw[<-r.length];exact z,?_⟩)
 have hf:H1 s1.heap.objs.size=none:=I1.cg.fresh (zah _)
 refine⟨.ref s1.heap.objs.size,br H1 s1.heap.objs.size (.gp xs),I1.ju (t':=s1.toks) (λb u e=>zab _ e) (zah _) ?_,rfl,q _ hf⟩
 exact⟨z,us,r,⟨_,zan _ rfl,rfl,_,rfl⟩⟩
theorem KW (h:PA X es t):PE X (.List es pos) (akE t):=by
 intro ah s σ H Q I hq;refine wpAny_List_spliced (cG (h pos ah s σ H _ I hq) λus s1 ⟨xs,H1,I1,r,z,q⟩=>⟨by rw[<-r.length];exact z,?_⟩)
 have hf:H1 s1.heap.objs.size=none:=I1.cg.fresh (zah _)
 refine⟨.ref s1.heap.objs.size,br H1 s1.heap.objs.size (.aV xs),I1.ju (t':=s1.toks) (λb u e=>zab _ e) (zah _) ?_,rfl,q _ hf⟩
 exact⟨z,us,0,r,zan _ rfl⟩
noncomputable abbrev Sp:=List V->Hp->VK->XK->Prop
noncomputable abbrev CW:=List Env->Hp->Shared->XK->Value->Shared->Prop
structure Dq (P:Program) (w:World) (K:PySem.W.Frag) (mg:Str->Option Value) (base:Heap) (A:Around) (outer:List Env) (s:Shared) (H:Hp):Prop where
 frames:A.frames=some outer
 sG:Mod K mg base
 bs:∀b o,base.get? b=some o->s.heap.get? b=some o/\H b=none
 PU:base.objs.size<=s.heap.objs.size
 lN:s.heap.FunFrames base outer
 Ks:∀b∈rT outer,H b=none
 cg:nI P w H s.heap
 iR:AllBare s.gens
noncomputable def CE (outer:List Env)(P:Program)(w:World)(H:Hp)(s:Shared)(Q:VK)(u:Value)(s':Shared):Prop:=
 ∃v H',s'.os=s.os/\AllBare s'.gens/\Un (rT outer) [] H H' s.heap s'.heap/\nI P w H' s'.heap/\bG v u/\Q v H'
noncomputable def CR (CX:CW)(outer:List Env)(P:Program)(w:World)(H:Hp)(s:Shared)(Q:VK)(E:XK)(r:Result)(s':Shared):Prop:=
 match r with
 |.ok (.ret u)=>CE outer P w H s Q u s'
 |.ok _=>False
 |.error e=>CX outer H s E e s'
structure aO (P:Program) (w:World) (K:PySem.W.Frag) (mg:Str->Option Value) (base:Heap) (CX:CW) (k:Nat) (f:Addr) (fd:FuncData) (ps:List Str) (sp:Sp):Prop where
 len:∀vs H Q E,sp vs H Q E->vs.length=ps.length
 ku:∀(A:Around) (outer:List Env) (s:Shared) (H:Hp) (args:Args) (us:List Value) (vs:List V) (Q:VK) (E:XK),gP k A->Dq P w K mg base A outer s H->BindsTo s fd args (ps.zip us)->bz vs us->sp vs H Q E ->
  codeAny (model P w) A (.call (.ref f) args) (CR CX outer P w H s Q E) s
theorem aO.imp {P:Program}{w:World}{K:PySem.W.Frag}{mg:Str->Option Value}{base:Heap}{CX:CW}{k:Nat}{f:Addr}{fd:FuncData}{ps:List Str}{sp sp':Sp}(F:aO P w K mg base CX k f fd ps sp)
  (h:∀vs H Q E,sp' vs H Q E->sp vs H Q E):aO P w K mg base CX k f fd ps sp':=
 ⟨λvs H Q E q=>F.len vs H Q E (h _ _ _ _ q),λA outer s H args us vs Q E hr he hb hv hs=>F.ku A outer s H args us vs Q E hr he hb hv (h _ _ _ _ hs)⟩
theorem Dq.KU {P:Program}{w:World}{K:PySem.W.Frag}{mg:Str->Option Value}{base:Heap}{A:Around}{outer:List Env}{s:Shared}{H:Hp}(e:Dq P w K mg base A outer s H)(C:Addr)(us:List Value)(kw:List (Str×Value)):
  Dq P w K mg base (A.under (.builtin "type.__call__" ⟨.ref C::us,kw⟩)) outer s H:=⟨by first|exact e.frames | (simpa[Around.under,Code.envs,Code.isFrame,afp] using e.frames),e.sG,e.bs,e.PU,e.lN,e.Ks,e.cg,e.iR⟩
theorem aI.AK (I:aI X ah σ H s):Dq X.prog X.w X.K X.mg X.base X.A X.cY s H:=
 ⟨I.ok.frames,I.ok.sG,I.bs,zai I.ok.PU I.sz,I.cY,I.Fy,I.cg,I.iR⟩
theorem aI.after (I:aI X ah σ H s)(h:CE X.cY X.prog X.w H s Q u s'):EP X ah σ Q u s':=by
 obtain⟨v,H',os,iR,un,cg,r,q⟩:=h;obtain⟨hh,g,d,t,os'⟩:=s';obtain rfl:os'=s.os:=os
 exact⟨v,H',I.call (h':=hh) (g':=g) (d':=d) (t':=t) (ch:=[]) un cg iR (λb z=>absurd z (by simp)),r,q⟩
noncomputable def UM (sp:Sp)(m_:List V)(E:XK)(t:TA):TE:=λσ H Q=>t σ H λvs H1=>sp (vs++m_) H1 Q E
noncomputable def FL (C:Addr)(m:Str)(sp:Sp)(m_:List V)(E:XK)(ta:TE)(t:TA):TE:=λσ H Q=>ta σ H λx H1=>∃a dx fs,x = .ref a/\H1 a=some (.fE C dx fs)/\fs.lookup m=none /\
 t σ H1 λvs H2=>sp (x::(vs++m_)) H2 Q E
noncomputable def UN (C:Addr)(sp:Sp)(m_:List V)(E:XK)(t:TA):TE:=λσ H Q=>t σ H λvs H1=>∀x dx,H1 x=none->H1 dx=none->dx≠x ->
 sp (.ref x::(vs++m_)) (br (br H1 dx (.sD x)) x (.fE C dx [])) (λv H2=>v = .bw/\Q (.ref x) H2) E
noncomputable def eO (K:PySem.W.Frag)(fd:FuncData)(ps:List Str)(ds:List Value):Prop:=
 ∀(s:Shared) (us:List Value),K.In s.heap->(us++ds).length=ps.length->BindsTo s fd ⟨us,[]⟩ (ps.zip (us++ds))
theorem eO.all {K:PySem.W.Frag}{fd:FuncData}{ps:List Str}(h:∀us:List Value,us.length=ps.length->bindArgs fd ⟨us,[]⟩=pure (ps.zip us)):eO K fd ps []:=λs us _ hl=>by
 rw[zaw] at hl ⊢
 exact .of_eq (h us hl)
noncomputable def gB (CX:CW)(X:Cx)(E:XK):Prop:=∀(ah:List (Addr×Obj)) (σ:St) (H:Hp) (s:Shared) (e:Value) (s':Shared),aI X ah σ H s->CX X.cY H s E e s'->X.xe e s'
section
variable {X:Cx}{CX:CW}{k:Nat}{f C:Addr}{fd:FuncData}{ps:List Str}{sp:Sp}{m_:List V}{ds:List Value}{E:XK}{x m:Str}{p pos eX:Pos}{e o:Expr}{es:List Expr}{ta:TE}{t:TA}
theorem Dt (F:aO X.prog X.w X.K X.mg X.base CX k f fd ps sp)(hr:gP k X.A)(hb:eO X.K fd ps ds)(hd:bz m_ ds)(hx:gB CX X E)
  (I:aI X ah σ H s) (r:bz vs us) (h:sp (vs++m_) H Q E):wpAny (model X.prog X.w) X.A (call (.ref f) us) (EP X ah σ Q) X.xe s:=by
 have r2:bz (vs++m_) (us++ds):=r.i9 hd
 have hl:(us++ds).length=ps.length:=by rw[<-r2.length];exact F.len _ _ _ _ h
 refine zdi (zcM (F.ku X.A X.cY s H ⟨us,[]⟩ (us++ds) (vs++m_) Q E hr I.AK (hb s us I.kj hl) r2 h) λr s' hq=>?_)
 cases r with
 |error e=>exact hx ah σ H s e s' I hq
 |ok fl =>
  cases fl with
  |ret u=>exact I.after hq
  |next=>exact False.elim hq
  |brk=>exact False.elim hq
  |cont=>exact False.elim hq
theorem QC (F:aO X.prog X.w X.K X.mg X.base CX k f fd ps sp)(hr:gP k X.A)(hg:Gl X x)(hm:X.mg x=some (.ref f))(hk:PySem.W.keepIn X.K (.ref f)=true)(hb:eO X.K fd ps ds)(hd:bz m_ ds)(hx:gB CX X E)
  (ha:PA X (e::es) t) (sP:(x == ("__debug__" : Str))=false:=by decide) (he:starEach (e::es) X.env=(false,eval e X.env)::starEach es X.env:=by rfl) (hpl:(backTo pos (starEach es X.env)).any (·.1)=false:=by rfl):
  PE X (.Call (.Name x p) (e::es) [] pos) (UM sp m_ E t):=by
 intro ah s σ H Q I h;refine zcu (mZ I hg hm ?_ sP)
 refine zcN (h₀:= X.base) I.ok.sG.Yn hk (cG (ha pos ah s σ H _ I h) λus s1 ⟨vs,H1,I1,r,q⟩=>⟨I1.kj,?_⟩) he hpl
 exact Dt F hr hb hd hx I1 r q
theorem QD (he:PE X o ta)(c:vV X.K C)(hm:dD X.K C m f)(F:aO X.prog X.w X.K X.mg X.base CX k f fd ps sp)(hr:gP k X.A)(hb:eO X.K fd ps ds)(hd:bz m_ ds)(hx:gB CX X E)(ha:PA X (e::es) t)
  (qa:starEach (e::es) X.env=(false,eval e X.env)::starEach es X.env:=by rfl) (hpl:(backTo pos (starEach es X.env)).any (·.1)=false:=by rfl)
  (ht:eval (.Call (.Attribute o m eX) (e::es) [] pos) X.env=(do
   let ov <-eval o X.env
   standAt eX.atName
   let (f,first) <-holding [ov] (getMethod ov m pl)
   callWith pos f first (backTo pos (starEach (e::es) X.env)) (backToKw pos (keywordEach [] X.env))):=by rfl):
  PE X (.Call (.Attribute o m eX) (e::es) [] pos) (FL C m sp m_ E ta t):=by
 intro ah s σ H Q I h;refine zdd (pl:=pl) (cG (he ah s σ H _ I h) λu s1 ⟨x,H1,I1,rx,a,dx,fs,ex,ea,l,q⟩=>?_) ht
 subst ex;obtain rfl:u=Value.ref a:=rx
 refine nV I1 ea c hm l ?_
 refine zcN (first:=[.ref a]) (h₀:= X.base) I.ok.sG.Yn hm.kp (cG (ha pos ah s1 σ H1 _ I1 q) λus s2 ⟨vs,H2,I2,r,q2⟩=>⟨I2.kj,?_⟩) qa hpl
 exact Dt (us:=.ref a::us) (vs:=.ref a::vs) F hr hb hd hx I2 (.cons rfl r) q2
theorem KY (he:PE X o ta)(c:vV X.K C)(hm:dD X.K C m f)(F:aO X.prog X.w X.K X.mg X.base CX k f fd ps sp)(hr:gP k X.A)(hb:eO X.K fd ps ds)(hd:bz m_ ds)(hx:gB CX X E)
  (ht:eval (.Call (.Attribute o m eX) [] [] pos) X.env=(do
   let ov <-eval o X.env
   standAt eX.atName
   let (f,first) <-holding [ov] (getMethod ov m pl)
   callWith pos f first (backTo pos (starEach [] X.env)) (backToKw pos (keywordEach [] X.env))):=by rfl):
  PE X (.Call (.Attribute o m eX) [] [] pos) (FL C m sp m_ E ta afn):=by
 intro ah s σ H Q I h;refine zdd (pl:=pl) (cG (he ah s σ H _ I h) λu s1 ⟨x,H1,I1,rx,a,dx,fs,ex,ea,l,q⟩=>?_) ht
 subst ex;obtain rfl:u=Value.ref a:=rx
 refine nV I1 ea c hm l ?_
 exact PySem.W.callWith_K0 (first:=[.ref a]) I1.kj hm.kp (Dt (us:=[.ref a]) (vs:=[.ref a]) F hr hb hd hx I1 (.cons rfl .nil) q)
structure Mk (K:PySem.W.Frag) (C f:Addr):Prop where
 afq:PySem.W.makesIn K C=true
 init:PySem.W.findIn K (.ref C) "__init__"=some (some (.ref f))
 fn:PySem.W.isFn K (.ref f)=true
 kp:PySem.W.keepIn K (.ref C)=true
theorem KZ (M:Mk X.K C f)(F:aO X.prog X.w X.K X.mg X.base CX k f fd ps sp)(hr:gP (k+1) X.A)(hb:eO X.K fd ps ds)(hd:bz m_ ds)
  (hx:gB CX X E) (I:aI X ah σ H s) (r:bz vs us)
  (h:∀x dx,H x=none->H dx=none->dx≠x->sp (.ref x::(vs++m_)) (br (br H dx (.sD x)) x (.fE C dx [])) (λv H2=>v = .bw/\Q (.ref x) H2) E):
  wpAny (model X.prog X.w) X.A (call (.ref C) us) (EP X ah σ Q) X.xe s:=by
 have hq:=h (s.heap.objs.size+1) s.heap.objs.size (I.cg.fresh (zbk _)) (I.cg.fresh (zah _)) (zaq (zbh _))
 have I2:=aI.made (C:=C) I
 have r2:bz (V.ref (s.heap.objs.size+1)::(vs++m_)) (Value.ref (s.heap.objs.size+1)::(us++ds)):=.cons rfl (r.i9 hd)
 have hl:(Value.ref (s.heap.objs.size+1)::us++ds).length=ps.length:=by
  have e:=r2.length;rw[F.len _ _ _ _ hq] at e;exact e.symm
 refine zdi (KS (f:=f) I.kj M.afq M.init (beq_iff_eq.mp M.fn) (zcM (F.ku _ X.cY _ _ ⟨Value.ref (s.heap.objs.size+1)::us,[]⟩ (Value.ref (s.heap.objs.size+1)::(us++ds)) _ _ E (hr.KU C us [])
  (I2.AK.KU C us []) (hb _ (Value.ref (s.heap.objs.size+1)::us) I2.kj hl) r2 hq) λr s' K0=>?_))
 cases r with
 |error e=>exact hx ah σ _ _ e s' I2 K0
 |ok fl =>
  cases fl with
  |ret u =>
   obtain⟨v,H',I3,rv,ev,q3⟩:=I2.after K0;subst ev;exact⟨rv,⟨V.ref (s.heap.objs.size+1),H',I3,rfl,q3⟩⟩
  |next=>exact False.elim K0
  |brk=>exact False.elim K0
  |cont=>exact False.elim K0
theorem QE (M:Mk X.K C f)(F:aO X.prog X.w X.K X.mg X.base CX k f fd ps sp)(hr:gP (k+1) X.A)(hg:Gl X x)(hm:X.mg x=some (.ref C))(hb:eO X.K fd ps ds)(hd:bz m_ ds)(hx:gB CX X E)
  (ha:PA X (e::es) t) (sP:(x == ("__debug__" : Str))=false:=by decide) (he:starEach (e::es) X.env=(false,eval e X.env)::starEach es X.env:=by rfl) (hpl:(backTo pos (starEach es X.env)).any (·.1)=false:=by rfl):
  PE X (.Call (.Name x p) (e::es) [] pos) (UN C sp m_ E t):=by
 intro ah s σ H Q I h;refine zcu (mZ I hg hm ?_ sP)
 refine zcN (h₀:= X.base) I.ok.sG.Yn M.kp (cG (ha pos ah s σ H _ I h) λus s1 ⟨vs,H1,I1,r,q⟩=>⟨I1.kj,?_⟩) he hpl
 exact KZ M F hr hb hd hx I1 r q
end
section
variable {X:Cx}{CX:CW}{k:Nat}{f C:Addr}{fd:FuncData}{ps ks:List Str}{sp:Sp}{E:XK}{x m:Str}{p pos eX apw:Pos}{e o:Expr}{es:List Expr}{kws:List Keyword}{te ta:TE}{t tk:TA}{nm:Option Str}
end
structure au (N P:List Str) (sc:Scope):Prop where
 kind:sc.kind = .function
 co:sc.isCoroutine=false
 gen:sc.isGenerator=false
 nd:N.Nodup
 pre:N.take P.length=P
 par:∀x∈P,sc.names.lookup x=some .local\/sc.names.lookup x=some .cell
 Y6:∀y∈sc.names,y.2 ≠ .free
theorem w_ {kindOf:Str->Option NameKind}{x:Str}:∀{qL:List (Str×Value)} {m:Str->Option Value},(∀v,(x,v)∉qL)->bindL kindOf qL m x=m x
 |[],_,_=>rfl
 | (n,v)::r,m,h=>by
  unfold bindL;rw[w_ λw hw=>h w (zaP _ hw)]
  split
  ·have:x≠n:=by rintro rfl;exact h v zbR
   simp[this]
  ·rfl
theorem xg {kindOf:Str->Option NameKind}{x:Str}:∀{qL:List (Str×Value)} {m:Str->Option Value},(∀v,(x,v)∉qL)->bindC kindOf qL m x=m x
 |[],_,_=>rfl
 | (n,v)::r,m,h=>by
  unfold bindC;rw[xg λw hw=>h w (zaP _ hw)]
  split
  ·rfl
  ·have:x≠n:=by rintro rfl;exact h v zbR
   simp[this]
theorem xh {kindOf:Str->Option NameKind}{x:Str}{v:Value}:∀{P:List Str} {vs:List Value} {i:Nat} {m:Str->Option Value},P.Nodup->P[i]? = some x->vs[i]? = some v->kindOf x=some .local ->
  bindL kindOf (P.zip vs) m x=some v
 |[],_,_,_,_,h,_,_=>by simp at h
 |_::_,[],_,_,_,_,h,_=>by simp at h
 |p::P,w::vs,0,m,nd,h1,h2,hk=>by
  simp at h1 h2;subst h1;subst h2
  show bindL kindOf ((p,w)::P.zip vs) m p=_
  unfold bindL;rw[w_ λv hv=>(zbF.mp nd).1 (zef hv).1,if_pos hk]
  simp
 |p::P,w::vs,i+1,m,nd,h1,h2,hk=>by
  show bindL kindOf ((p,w)::P.zip vs) m x=_
  unfold bindL;exact xh (i:=i) (zbF.mp nd).2 (by simpa using h1) (by simpa using h2) hk
theorem xj {kindOf:Str->Option NameKind}{x:Str}{v:Value}:∀{P:List Str} {vs:List Value} {i:Nat} {m:Str->Option Value},P.Nodup->P[i]? = some x->vs[i]? = some v->kindOf x≠some .local ->
  bindC kindOf (P.zip vs) m x=some v
 |[],_,_,_,_,h,_,_=>by simp at h
 |_::_,[],_,_,_,_,h,_=>by simp at h
 |p::P,w::vs,0,m,nd,h1,h2,hk=>by
  simp at h1 h2;subst h1;subst h2
  show bindC kindOf ((p,w)::P.zip vs) m p=_
  unfold bindC;rw[xg λv hv=>(zbF.mp nd).1 (zef hv).1,if_neg hk]
  simp
 |p::P,w::vs,i+1,m,nd,h1,h2,hk=>by
  show bindC kindOf ((p,w)::P.zip vs) m x=_
  unfold bindC;exact xj (i:=i) (zbF.mp nd).2 (by simpa using h1) (by simpa using h2) hk
noncomputable def cV (N:List Str)(vs:List V):St:=vs.map some++List.replicate (N.length - vs.length) none
noncomputable def jw (CX:CW)(P:Program)(w:World)(K:PySem.W.Frag)(mg:Str->Option Value)(base:Heap)(N:List Str)(bX:Str)(scope:Scope)(f:Addr)(cd:Value)(A:Around)(outer:List Env)(s:Shared)(H:Hp)(E:XK):Cx where
 prog:=P
 w:=w
 K:=K
 mg:=mg
 base:=base
 A:=A.deeper (envOfC bX scope s.heap.objs.size f cd)
 N:=N
 s₀:= s
 H₀:= H
 env:=envOfC bX scope s.heap.objs.size f cd
 outer:=outer
 cY:=envOfC bX scope s.heap.objs.size f cd::outer
 ex:=[]
 fM:=true
 fn:=λ_=>true
 pn:=[]
 xe:=λe s'=>wpAny (model P w) (A.deeper (envOfC bX scope s.heap.objs.size f cd)) (leaving (envOfC bX scope s.heap.objs.size f cd) e) (λ_ s''=>CX outer H s E e s'') (λe' s''=>CX outer H s E e' s'') s'
theorem AL {sc:Scope}{n:Nat}{x:Str}(h:sc.names.lookup x=some .cell):∃c,(cellsFrom n sc.names []).lookup x=some c:=by
 have q:=zem sc.names n [] (.inl h)
 exact zcj.mp q
theorem HX {CX:CW}{P:Program}{w:World}{K:PySem.W.Frag}{mg:Str->Option Value}{base:Heap}{N ps:List Str}{bX:Str}{scope:Scope}{f:Addr}{cd:Value}{A:Around}{outer:List Env}{s s1:Shared}{H:Hp}{E:XK}{us:List Value}{vs:List V}
  (S:au N ps scope) (hd:A.handled=none) (e0:Dq P w K mg base A outer s H) (hl:vs.length=ps.length) (r:bz vs us)
  (x:InCallC s s.heap.objs.size (bindL (envOfC bX scope s.heap.objs.size f cd).kindOf (ps.zip us) λ_=>none) (cellsFrom (s.heap.objs.size+1) scope.names []) (bindC (envOfC bX scope s.heap.objs.size f cd).kindOf (ps.zip us) λ_=>none) s1):
  aI (jw CX P w K mg base N bX scope f cd A outer s H E) [] (cV N vs) H s1:=by
 have hpl:ps.length<=N.length:=by have:=congrArg List.length S.pre;rw[zaB] at this;omega
 obtain⟨h1,tk,rfl,hk⟩:=x.done;have noA:∀b:Addr,b∉(jw CX P w K mg base N bX scope f cd A outer s H E).ex:=λb z=>absurd (show b∈([]:List Addr) from z) (by simp)
 refine⟨⟨e0.sG,S.kind,rfl,rfl,zah _,λy z c h1 h2=>?_,λy hy=>?_,λy c _ h=>?_,λ_=>hd,Around.frames_deeper e0.frames,.inr ⟨rfl,rfl⟩,λb z=>absurd z (noA b),e0.bs,e0.PU,λb _ _=>noA b,λb z=>absurd z (noA b),e0.lN,e0.Ks⟩,
  rfl,e0.iR,Un.gz hk,⟨_,x.toInCall.ns,λi y v h1 h2 h3=>?_⟩,λy c h=>⟨_,x.cell y c h⟩,e0.cg.fresh (zah _),λy c h=>?_,λp hp=>absurd (show p∈([]:List (Addr×Obj)) from hp) (by simp),e0.cg.gz hk,?_⟩
 ·exact name_of_addr x.apart (zba h1) (zba h2)
 ·have hy:scope.names.lookup y=some .cell\/scope.names.lookup y=some .free:=hy
  rcases hy with hy|hy
  ·exact AL hy
  ·exact absurd rfl (S.Y6 _ (zba hy))
 ·exact zdg (x.above y c (zba h))
 ·have hi:i<vs.length:=by
   unfold cV at h2;by_cases hi:i<vs.length
   ·exact hi
   ·rw[zat (by simpa using hi)] at h2
    rw[zcX] at h2;split at h2<;>cases h2
  have ha:vs[i]? = some v:=by
   unfold cV at h2;rw[zaj (by simpa using hi),zar] at h2
   cases e:vs[i]? with
   |none=>rw[e] at h2;cases h2
   |some a=>rw[e] at h2;cases h2;rfl
  obtain⟨u,hu,rv⟩:=r.get ha;have hp:ps[i]? = some y:=by
   rw[<-S.pre,zbG (by omega)];exact h1
  have ndP:ps.Nodup:=by rw[<-S.pre];exact S.nd.sublist (List.take_sublist _ _)
  refine⟨u,rv,?_⟩
  rcases S.par y (zaR hp) with k|k
  ·exact .inl ⟨k,xh ndP hp hu k⟩
  ·obtain⟨c,e⟩:=AL (n:=s.heap.objs.size+1) k
   refine .inr ⟨.inl k,c,e,?_⟩
   have q:=x.cell y c e;rw[xj ndP hp hu (by show scope.names.lookup y≠_;rw[k];decide)] at q
   exact q
 ·exact e0.cg.fresh (zdg (x.above y c (zba h)))
 ·unfold cV
  show _=N.length
  rw[zak,zaf,List.length_replicate];omega
theorem K1 {CX:CW}{P:Program}{w:World}{K:PySem.W.Frag}{mg:Str->Option Value}{base:Heap}{k:Nat}{f:Addr}{name bX:Str}{params:Arguments}{body:List Stmt}{scope:Scope}{dV kV nW pm fC ct oc:Value}{an od:Option Addr}
  {Du:Array (Option Value)} {N ps:List Str} {sp:Sp} (lk:K.lookup f=some ⟨oc,od,.func (PySem.W.fnOf name bX params body scope dV kV nW pm an fC ct),Du⟩) (AG:PySem.W.codeIn K fC bX=true) (S:au N ps scope)
  (len:∀vs H Q E,sp vs H Q E->vs.length=ps.length)
  (sQ:∀(A:Around) (outer:List Env) (s:Shared) (H:Hp) (vs:List V) (Q:VK) (E:XK),gP k (A.deeper (envOfC bX scope s.heap.objs.size f fC))->sp vs H Q E ->
   ∃t,wg (jw CX P w K mg base N bX scope f fC A outer s H E) body t/\t {nx:=λ_ H'=>Q .bw H',rt:=Q} (cV N vs) H):
  aO P w K mg base CX (k+1) f (PySem.W.fnOf name bX params body scope dV kV nW pm an fC ct) ps sp:=by
 refine⟨len,λA outer s H args us vs Q E hr e0 hb r J8=>?_⟩
 have hl:=len _ _ _ _ J8;have KX:K.In s.heap:=e0.sG.Yn.keeps λb o e=>(e0.bs b o e).1
 have lim:s.heap.NoLimit:=e0.sG.nolimit.keeps λb o e=>(e0.bs b o e).1
 have aft:∀y∈ps.zip us,scope.names.lookup y.1=some .local\/(scope.names.lookup y.1=some .cell/\((cellsFrom (s.heap.objs.size+1) scope.names []).lookup y.1).isSome=true):=λ⟨n,v⟩ hy=>by
  rcases S.par n (zef hy).1 with q|q
  ·exact .inl q
  ·exact .inr ⟨q,zem _ _ _ (.inl q)⟩
 refine codeAny_call_function hr.depth (KX _ _ lk) rfl S.co S.gen rfl (PySem.W.codeRec_of KX AG) (hb _ _ _ _ ?_)
 refine wpAny_newFunctionEnv_cells S.kind aft λenv he s1 x=>?_
 subst he;refine⟨lim.keeps x.toInCall.keep,codeAny_func ?_⟩
 obtain⟨t,ht,hq⟩:=sQ A outer s H vs Q E (hr.deeper _) J8
 have I:aI (jw CX P w K mg base N bX scope f fC A outer s H E) [] (cV N vs) H s1:=HX S hr.hd e0 hl r x
 refine zaQ (ht [] s1 (cV N vs) H _ I hq) (λfl s' hs=>?_) λe s' hs=>hs
 have fL:∀{dP:St} {H':Hp} {v:V} {u:Value},aI (jw CX P w K mg base N bX scope f fC A outer s H E) [] dP H' s'->bG v u->Q v H'->CE outer P w H s Q u s':=
  λ{dP H' v u} J rv q=>⟨v,H',J.os,J.iR,J.base,J.cg,rv,q⟩
 cases fl with
 |ret u =>
  obtain⟨v,dP,H',J,rv,q⟩:=hs;exact fL J rv q
 |next =>
  obtain⟨dP,H',J,q⟩:=hs;exact fL (v:=V.bw) (u:=Value.none) J rfl q
 |brk =>
  obtain⟨_,_,_,q⟩:=hs;exact False.elim q
 |cont =>
  obtain⟨_,_,_,q⟩:=hs;exact False.elim q
section
variable {X:Cx}{x:Str}{p pos:Pos}{e:Expr}{es:List Expr}{t:TA}{id T:String}{r:List V->Hp->VK->Prop}
noncomputable def tCB (r:List V->Hp->VK->Prop)(t:TA):TE:=λσ H Q=>t σ H λvs H1=>r vs H1 Q
theorem AM (hc:ja X (.builtin id) r)(hg:Gl X x)(hm:X.mg x=none)(hv:bootBuiltins x=some (.builtin id))(ha:PA X (e::es) t)(hn:x ≠ "__name__" := by decide)(sP:(x == ("__debug__" : Str))=false:=by decide)
  (he:starEach (e::es) X.env=(false,eval e X.env)::starEach es X.env:=by rfl) (hpl:(backTo pos (starEach es X.env)).any (·.1)=false:=by rfl):PE X (.Call (.Name x p) (e::es) [] pos) (tCB r t):=by
 intro ah s σ H Q I h;refine zcu (sI I hg hm hv ?_ hn sP)
 exact PyProof.Rows.callWith_builtin1 (cG (ha pos ah s σ H _ I h) λus s1 ⟨vs,H1,I1,r1,q1⟩=>hc ah s1 σ H1 vs us Q I1 r1 q1) he hpl
theorem HY (hc:ja X (.type T) r)(hg:Gl X x)(hm:X.mg x=none)(hv:bootBuiltins x=some (.type T))(ha:PA X (e::es) t)(hn:x ≠ "__name__" := by decide)(sP:(x == ("__debug__" : Str))=false:=by decide)
  (he:starEach (e::es) X.env=(false,eval e X.env)::starEach es X.env:=by rfl) (hpl:(backTo pos (starEach es X.env)).any (·.1)=false:=by rfl):PE X (.Call (.Name x p) (e::es) [] pos) (tCB r t):=by
 intro ah s σ H Q I h;refine zcu (sI I hg hm hv ?_ hn sP)
 exact zcE (cG (ha pos ah s σ H _ I h) λus s1 ⟨vs,H1,I1,r1,q1⟩=>hc ah s1 σ H1 vs us Q I1 r1 q1) he hpl
end
section
variable {κ:Type}[DecidableEq κ]
noncomputable def lO (aJ:List (κ × V))(k:κ):Option V:=(aJ.find? λkv=>decide (kv.1=k)).map (·.2)
noncomputable def kC (aJ:List (κ × V))(k:κ)(v:V):List (κ × V):=
 if (aJ.any λkv=>decide (kv.1=k))=true then aJ.map (λkv=>if kv.1=k then (kv.1,v) else kv) else aJ++[(k,v)]
theorem oU {p:κ × V}{r:List (κ × V)}{k:κ}(e:p.1=k):lO (p::r) k=some p.2:=by simp[lO,zcv,e]
theorem oV {p:κ × V}{r:List (κ × V)}{k:κ}(e:¬ p.1=k):lO (p::r) k=lO r k:=by simp[lO,zcv,e]
theorem AN (k:κ):∀aJ:List (κ × V),(aJ.any λkv=>decide (kv.1=k))=(lO aJ k).isSome
 |[]=>rfl
 |p::r=>by
  rw[zcs];by_cases e:p.1=k
  ·simp only[oU e,decide_eq_true e,Bool.true_or,zeP]
  ·rw[oV e,decide_eq_false e,Bool.false_or];exact AN k r
theorem lZ (aJ:List (κ × V))(k:κ)(v:V):(kC aJ k v).length<=aJ.length+1:=by
 unfold kC;split
 ·rw[zaf];omega
 ·rw[zak,zav,zbe];omega
theorem i_.jU (r:i_ o u):o.isSome=u.isSome:=by
 cases o with
 |none=>cases u with
  |none=>rfl
  |some _=>exact (show False from r).elim
 |some _=>cases u with
  |none=>exact (show False from r).elim
  |some _=>rfl
theorem i_.getD (r:i_ o u)(rd:bG d d'):bG (o.getD d) (u.getD d'):=by
 cases o with
 |none=>cases u with
  |none=>exact rd
  |some _=>exact (show False from r).elim
 |some _=>cases u with
  |none=>exact (show False from r).elim
  |some _=>exact r
theorem KV.val {aJ:List (κ × V)}{vs:List (κ × Value)}(r:KV aJ vs)(k:κ):i_ (lO aJ k) (valueAt vs k):=by
 unfold KV at r;induction r with
 |nil=>exact True.intro
 | @cons p q ps qs h t ih =>
  obtain⟨h1,h2⟩:=h;by_cases e:p.1=k
  ·have e':q.1=k:=h1.symm.trans e
   have b:valueAt (q::qs) k=some q.2:=by simp[valueAt,zcv,e']
   rw[oU e,b];exact h2
  ·have e':¬ q.1=k:=λz=>e (h1.trans z)
   have b:valueAt (q::qs) k=valueAt qs k:=by simp[valueAt,zcv,e']
   rw[oV e,b];exact ih
theorem KV.any (r:KV aJ vs)(k:κ):(aJ.any λkv=>decide (kv.1=k))=vs.any λkv=>decide (kv.1=k):=by
 unfold KV at r;induction r with
 |nil=>rfl
 |cons h t ih=>rw[zcs,zcs,ih,h.1]
theorem KV.Y7 (r:KV aJ vs)(k:κ)(ry:bG y u):
  KV (aJ.map λkv=>if kv.1=k then (kv.1,y) else kv) (vs.map λkv=>if kv.1=k then (kv.1,u) else kv):=by
 unfold KV at r ⊢
 induction r with
 |nil=>exact .nil
 | @cons p q ps qs h t ih =>
  rw[zau,zau];refine .cons ?_ ih
  obtain⟨h1,h2⟩:=h;by_cases e:p.1=k
  ·rw[if_pos e,if_pos (h1.symm.trans e)];exact⟨h1,ry⟩
  ·rw[if_neg e,if_neg (λz=>e (h1.trans z))];exact⟨h1,h2⟩
theorem KV.Dv (r:KV aJ vs)(k:κ)(ry:bG y u):KV (kC aJ k y) (stored vs k u):=by
 unfold kC stored;rw[r.any k];by_cases e:(vs.any λkv=>decide (kv.1=k))=true
 ·rw[if_pos e,if_pos e];exact r.Y7 k ry
 ·rw[if_neg e,if_neg e];exact Paired.snoc r ⟨rfl,ry⟩
theorem KV.qb {aJ:List (κ × V)}{vs:List (κ × Value)}(r:KV aJ vs):aJ.map (·.1)=vs.map (·.1):=by
 unfold KV at r;induction r with
 |nil=>rfl
 |cons h t ih=>rw[zau,zau,ih,h.1]
theorem KV.length (r:KV aJ vs):aJ.length=vs.length:=Paired.length r
end
theorem qM (r:bG (kV k) u):(bS P w).is k u=true:=by
 cases k with
 |inl i=>obtain⟨t,e⟩:=(show ∃t,u=Value.int i t from r);subst e;exact AA P w i t
 |inr x=>obtain⟨t,e⟩:=(show ∃t,u=Value.str x t from r);subst e;exact AB P w x t
theorem xm:∀{ks:List dz} {us:List Value},bz (ks.map kV) us->ItemsAre (bS P w) ks us
 |[],_,r=>by rw[zaI] at r;cases r;exact .nil
 |k::ks,_,r=>by
  rw[zau] at r;cases r with
  |cons h t=>exact .cons (qM h) (xm t)
noncomputable abbrev KT (H:Hp):List (List dz×V)->List (List dz×Addr×Value)->Prop:=Paired λp q=>p.1=q.1/\H q.2.1=some (.gp (p.1.map kV))/\bG p.2 q.2.2
theorem KT.val (r:KT H aJ xs)(k:List dz):i_ (lO aJ k) ((atKey xs k).map (·.2)):=by
 induction r with
 |nil=>exact True.intro
 | @cons p q ps qs h t ih =>
  obtain⟨h1,_,h2⟩:=h;by_cases e:p.1=k
  ·have e':q.1=k:=h1.symm.trans e
   have b:atKey (q::qs) k=some q.2:=by simp[atKey,zcv,e']
   rw[oU e,b];exact h2
  ·have e':¬ q.1=k:=λz=>e (h1.trans z)
   have b:atKey (q::qs) k=atKey qs k:=by simp[atKey,zcv,e']
   rw[oV e,b];exact ih
theorem KT.Y7 (r:KT H aJ xs)(k:List dz)(ry:bG y u):
  KT H (aJ.map λkv=>if kv.1=k then (kv.1,y) else kv) (xs.map (putAt k u)):=by
 induction r with
 |nil=>exact .nil
 | @cons p q ps qs h t ih =>
  rw[zau,zau];refine .cons ?_ ih
  obtain⟨h1,h2,h3⟩:=h;unfold putAt;by_cases e:p.1=k
  ·rw[if_pos e,if_pos (h1.symm.trans e)];exact⟨h1,h2,ry⟩
  ·rw[if_neg e,if_neg (λz=>e (h1.trans z))];exact⟨h1,h2,h3⟩
theorem KT.Dv (r:KT H aJ xs)(k:List dz)(hb:H b=some (.gp (k.map kV)))(ry:bG y u):
  KT H (kC aJ k y) (storedH xs k b u):=by
 have e:(aJ.any λkv=>decide (kv.1=k))=(atKey xs k).isSome:=by
  rw[AN,(r.val k).jU,zdK]
 unfold kC storedH;rw[e];by_cases q:(atKey xs k).isSome=true
 ·rw[if_pos q,if_pos q];exact r.Y7 k ry
 ·rw[if_neg q,if_neg q];exact Paired.snoc r ⟨rfl,hb,ry⟩
theorem KT.keeps (r:KT H aJ xs)(ht:∀b ys,H b=some (.gp ys)->H' b=some (.gp ys)):KT H' aJ xs:=
 Paired.Yl r λ_ _ z=>⟨z.1,ht _ _ z.2.1,z.2.2⟩
theorem UO (ok:nI P w H h)(e:Rd H a u):bY P w H h a u:=e.ok ok
theorem qN (ok:nI P w H h)(e:Rd H a (.dK aJ)):aJ.length<=sizeLine/\(a == sysModules)=false/\∃vs,KV aJ vs/\h.DictOf (bS P w) a vs:=
 show bY P w H h a (.dK aJ) from UO ok e
theorem UP (ok:nI P w H h)(e:H a=some (.dK aJ)):aJ.length<=sizeLine/\(a == sysModules)=false/\∃vs,KV aJ vs/\h.DictOf (bS P w) a vs:=qN ok (.inl e)
theorem qg (ok:nI P w H h)(e:H a=some (.gp (ks.map kV))):(tupleKind (bS P w)).is h ks a:=by
 obtain⟨_,aH,r,o,h1,h2,n,h3⟩:=(show bY P w H h a (.gp (ks.map kV)) from ok a _ e)
 exact⟨o,aH.toArray,n,h1,h2,h3,by simpa using xm r⟩
theorem sR (ok:nI P w H h)(e:Rd H a (.dT aJ)):aJ.length<=sizeLine/\(a == sysModules)=false /\
  ∃xs,KT H aJ xs/\h.DictOfH (tupleKind (bS P w)) a xs:=by
 obtain⟨z,y,xs,r,o,es,ep,h1,h2,h3,h4,h5⟩:=(show bY P w H h a (.dT aJ) from UO ok e)
 refine⟨z,y,xs,r,o,es,ep,h1,h2,h3,h4,λx hx=>?_,h5⟩
 have all:∀{l:List (List dz×V)} {m:List (List dz×Addr×Value)},KT H l m->∀x∈m,(tupleKind (bS P w)).is h x.1 x.2.1:=by
  intro l m q;induction q with
  |nil=>intro x hx;exact nomatch hx
  | @cons p q ps qs hq t ih =>
   intro x hx;rcases zap.mp hx with e|hx
   ·subst e
    exact qg ok (by rw[<-hq.1];exact hq.2.1)
   ·exact ih x hx
 exact all r x hx
theorem afu (ok:nI P w H h)(e:H a=some (.dT aJ)):aJ.length<=sizeLine/\(a == sysModules)=false /\
  ∃xs,KT H aJ xs/\h.DictOfH (tupleKind (bS P w)) a xs:=sR ok (.inl e)
noncomputable def nJ (H:Hp)(a:Addr)(y:V)(r:Option V):Prop:=
 (∃aJ k,Rd H a (.dK aJ)/\y=kV k/\r=lO aJ k)\/∃aJ k b,Rd H a (.dT aJ)/\y = .ref b/\H b=some (.gp (k.map kV))/\r=lO aJ k
noncomputable def HZ (H:Hp)(a:Addr)(y v:V)(H':Hp):Prop:=
 (∃aJ k,H a=some (.dK aJ)/\y=kV k/\aJ.length<sizeLine/\H'=br H a (.dK (kC aJ k v))) \/
 ∃aJ k b,H a=some (.dT aJ)/\y = .ref b/\H b=some (.gp (k.map kV))/\aJ.length<sizeLine/\H'=br H a (.dT (kC aJ k v))
theorem nJ.k {H:Hp}{a:Addr}{aJ:List (dz×V)}{k:dz}(e:H a=some (.dK aJ)):nJ H a (kV k) (lO aJ k):=.inl ⟨aJ,k,.inl e,rfl,rfl⟩
theorem HZ.k {H:Hp}{a:Addr}{aJ:List (dz×V)}{k:dz}{v:V}(e:H a=some (.dK aJ))(hl:aJ.length<sizeLine):HZ H a (kV k) v (br H a (.dK (kC aJ k v))):=.inl ⟨aJ,k,e,rfl,hl,rfl⟩
theorem aI.big (I:aI X ah σ H s):sysModules<s.heap.objs.size:=by
 have h:mainGlobals<s.heap.objs.size:=(I.sG.sF.keeps I.bk).lt
 exact zdV (by decide) h
theorem H_ (hu:A.units+1<cLine)(I:aI X ah σ H s)(g:nJ H a y (some v))(ry:bG y u)(h:∀w' s',aI X ah σ H s'->bG v w'->Q w' s'):
  wpAny (model X.prog X.w) A (getItem (.ref a) u) Q E s:=by
 rcases g with⟨aJ,k,e,ey,l⟩|⟨aJ,k,b,e,ey,eb,l⟩
 ·subst ey
  obtain⟨z,hd,vs,jz,dd⟩:=qN I.cg e;obtain⟨w',hw,yO⟩:=i_.yP (v:=v) (o:=valueAt vs k) (by rw[l];exact jz.val k)
  exact wpAny_getItem_of (qM ry) dd.mapOf hw (h w' _ (I.oK _) yO)
 ·subst ey
  cases (show u=Value.ref b from ry)
  obtain⟨z,hd,xs,jz,dd⟩:=sR I.cg e;obtain⟨w',hw,yO⟩:=i_.yP (v:=v) (o:=(atKey xs k).map (·.2)) (by rw[l];exact jz.val k)
  obtain⟨p,hp,hp2⟩:=zbQ.mp hw;refine wpAny_getItem_heap (zcw hu) (qg I.cg eb) dd hp ?_
  rw[hp2];exact h w' _ (I.oK _) yO
theorem akI (hu:A.units+1<cLine)(I:aI X ah σ H s)(g:nJ H a y o)(ry:bG y u)(h:∀s',aI X ah σ H s'->Q (.bool o.isSome) s'):
  wpAny (model X.prog X.w) A (compareOp .In u (.ref a)) Q E s:=by
 rcases g with⟨aJ,k,e,ey,l⟩|⟨aJ,k,b,e,ey,eb,l⟩
 ·subst ey
  obtain⟨z,hd,vs,jz,dd⟩:=qN I.cg e;refine wpAny_in_of (qM ry) hd dd.mapOf ?_
  rw[<-(jz.val k).jU,<-l];exact h _ (I.oK _)
 ·subst ey
  cases (show u=Value.ref b from ry)
  obtain⟨z,hd,xs,jz,dd⟩:=sR I.cg e;refine wpAny_in_heap (zcw hu) (qg I.cg eb) hd dd ?_
  have q:=(jz.val k).jU
  rw[zdK] at q;rw[<-q,<-l];exact h _ (I.oK _)
theorem QF (hu:A.units+1<cLine)(I:aI X ah σ H s)(g:nJ H a y o)(ry:bG y u)(h:∀s',aI X ah σ H s'->Q (.bool (!o.isSome)) s'):
  wpAny (model X.prog X.w) A (compareOp .NotIn u (.ref a)) Q E s:=by
 rcases g with⟨aJ,k,e,ey,l⟩|⟨aJ,k,b,e,ey,eb,l⟩
 ·subst ey
  obtain⟨z,hd,vs,jz,dd⟩:=qN I.cg e;refine wpAny_notIn_of (qM ry) hd dd.mapOf ?_
  rw[<-(jz.val k).jU,<-l];exact h _ (I.oK _)
 ·subst ey
  cases (show u=Value.ref b from ry)
  obtain⟨z,hd,xs,jz,dd⟩:=sR I.cg e;refine wpAny_notIn_heap (zcw hu) (qg I.cg eb) hd dd ?_
  have q:=(jz.val k).jU
  rw[zdK] at q;rw[<-q,<-l];exact h _ (I.oK _)
theorem yQ (I:aI X ah σ H s)(mu:Mut (H a))(hs:Heap.SameBut a s.heap h')(he:∃q,h'.get? a=some q)(new:bY X.prog X.w (br H a ob) h' a ob):
  aI X ah σ (br H a ob) {s with heap:=h',toks:=t' }:=
 I.jy (x:=a) (e:=a) mu (.inl rfl) (λb q hb z=>(hs.2 b hb).trans z) he new
theorem K2 (z:aJ.length<=sizeLine)(hd:(a == sysModules)=false)(jz:KV aJ vs)(dd:h'.DictOf (bS P w) a vs):
  bY P w H' h' a (.dK aJ):=⟨z,hd,vs,jz,dd⟩
theorem Ia (hu:A.units+1<cLine)(I:aI X ah σ H s)(g:HZ H a y v H')(ry:bG y u)(rv:bG v r)(h:∀s',aI X ah σ H' s'->Q () s'):
  wpAny (model X.prog X.w) A (setItem (.ref a) u r) Q E s:=by
 rcases g with⟨aJ,k,e,ey,l,eH⟩|⟨aJ,k,b,e,ey,eb,l,eH⟩
 ·subst ey eH
  obtain⟨z,hd,vs,jz,dd⟩:=UP I.cg e;have hz:vs.length<=sizeLine:=by rw[<-jz.length];exact z
  have hl:(kC aJ k v).length<=sizeLine:=by have:=lZ aJ k v;omega
  refine wpAny_setItem_pairs (hsz:=hz) (qM ry) dd λh' CY hs=>h _ ?_
  have he:∃q,h'.get? a=some q:=let ⟨q,_,_,hq,_⟩:=CY;⟨q,hq⟩
  exact yQ I (by rw[e];exact True.intro) hs he (K2 hl hd (jz.Dv k rv) CY)
 ·subst ey eH
  cases (show u=Value.ref b from ry)
  obtain⟨z,hd,xs,jz,dd⟩:=afu I.cg e;have hz:xs.length<=sizeLine:=by rw[<-Paired.length jz];exact z
  have hl:(kC aJ k v).length<=sizeLine:=by have:=lZ aJ k v;omega
  refine wpAny_setItem_heap (hsz:=hz) (zcw hu) (qg I.cg eb) dd λh' CY hs=>h _ ?_
  obtain⟨q,es,ep,hq,h2,h3,h4,_,h5⟩:=CY;refine yQ I (by rw[e];exact True.intro) hs ⟨q,hq⟩ ⟨hl,hd,_,(jz.Dv k eb rv).keeps λc ys ec=>?_,q,es,ep,hq,h2,h3,h4,h5⟩
  rw[aq (aeK ec e (λz=>nomatch z))]
  exact ec
theorem afv (I:aI X ah σ H s)(e:Rd H a (.dK aJ))(h:∀t s',aI X ah σ H s'->Q (.int aJ.length t) s'):wpAny (model X.prog X.w) A (call (.builtin "len") [.ref a]) Q E s:=by
 obtain⟨z,hd,vs,jz,dd⟩:=qN I.cg e;refine call_len_dict hd dd (by rw[<-jz.length];rw[zdy] at z;omega) ?_
 rw[<-jz.length];exact h _ _ (I.oK _)
noncomputable def QG (i:Expr):Prop:=∀ov iv,subscripted i false ov iv=operate [ov,iv] (getItem ov iv)
theorem QH {prog:Program}{w:World}{A:Around}{E:Value->Shared->Prop}{s:Shared}{env:Env}{value slice:Expr}{pos:Pos}{T id:String}{Q:Value->Shared->Prop}
  (hl:typeLookup (.type T) "__getitem__"=pure (some (.builtin id))) (hs:QG slice)
  (h:wpAny (model prog w) A (eval value env) (λo cI=>wpAny (model prog w) A (eval slice env) (λi lW=>lW.TypeIs o T/\wpAny (model prog w) A (getItem o i) Q E lW) E cI) E s):
  wpAny (model prog w) A (eval (.Subscript value slice pos) env) Q E s:=by
 refine Subscript_ (zaQ h (λo cI QI=>zaQ QI (λi lW K3=>?_) λ_ _ x=>x) λ_ _ x=>x)
 obtain⟨hT,K3⟩:=K3;unfold subscriptTail;refine zaa ?_
 rw[getitemInPython_of_ne hT.not_modules];refine zaa (zeg hT hl ?_)
 have fL:wpAny (model prog w) A (subscripted slice false o i) (λr wj=>wpAny (model prog w) A (letTemporaryGo value o r >>= λ_=>pure r) Q E wj) E lW:=by
  rw[hs o i];exact wpAny_operating (zaQ K3 (λr wj QJ=>zaa (wpAny_letTemporaryGo (zad QJ))) λ_ _ x=>x)
 first
  |exact zad (zaa fL)
  |exact zaa (zad (zaa fL))
  |exact zaa fL
theorem AO (I:aI X ah σ H s)(g:nJ H a y o):s.TypeIs (.ref a) "dict" := by
 rcases g with⟨aJ,k,e,_,_⟩|⟨aJ,k,b,e,_,_,_⟩
 ·obtain⟨_,_,vs,_,dd⟩:=qN I.cg e
  exact dd.typeIs
 ·obtain⟨_,_,xs,_,dd⟩:=sR I.cg e
  exact dd.typeIs
noncomputable def afw (td ty:TE):TE:=λσ H Q=>td σ H λx H1=>ty σ H1 λy H2=>∃a v,x = .ref a/\nJ H2 a y (some v)/\Q v H2
noncomputable def afx (ty td:TE):TE:=λσ H Q=>ty σ H λy H1=>td σ H1 λx H2=>∃a o,x = .ref a/\nJ H2 a y o/\Q (.bl o.isSome) H2
noncomputable def FN (ty td:TE):TE:=λσ H Q=>ty σ H λy H1=>td σ H1 λx H2=>∃a o,x = .ref a/\nJ H2 a y o/\Q (.bl (!o.isSome)) H2
noncomputable def afy (td ty tv:TE):TS:=λD σ H=>tv σ H λv H1=>td σ H1 λx H2=>ty σ H2 λy H3=>∃a H4,x = .ref a/\HZ H3 a y v H4/\D.nx σ H4
theorem FO (hu:X.A.units+1<cLine)(ho:PE X o td)(hi:PE X i ty)(hs:QG i):PE X (.Subscript o i pos) (afw td ty):=by
 intro ah s σ H Q I h;refine QH PySem.F.slot_dict_getitem.lookup hs (cG (ho ah s σ H _ I h) λu s1 ⟨x,H1,I1,rx,q1⟩=>cG (hi ah s1 σ H1 _ I1 q1) λiv s2 ⟨y,H2,I2,ry,a,v,ex,g,q2⟩=>?_)
 subst ex;obtain rfl:u=Value.ref a:=rx
 exact⟨AO I2 g,H_ hu I2 g ry λw' s3 I3 yO=>⟨v,H2,I3,yO,q2⟩⟩
theorem Y8 (hu:X.A.units+1<cLine)(hi:PE X i ty)(ho:PE X o td):PC X .In i o (afx ty td):=by
 intro ah s σ H Q I h;refine cG (hi ah s σ H _ I h) λiv s1 ⟨y,H1,I1,ry,q1⟩=>cG (ho ah s1 σ H1 _ I1 q1) λu s2 ⟨x,H2,I2,rx,a,ov,ex,g,q2⟩=>?_
 subst ex;obtain rfl:u=Value.ref a:=rx
 exact akI hu I2 g ry λs3 I3=>⟨.bl ov.isSome,H2,I3,rfl,q2⟩
theorem Ib (hu:X.A.units+1<cLine)(hi:PE X i ty)(ho:PE X o td):PC X .NotIn i o (FN ty td):=by
 intro ah s σ H Q I h;refine cG (hi ah s σ H _ I h) λiv s1 ⟨y,H1,I1,ry,q1⟩=>cG (ho ah s1 σ H1 _ I1 q1) λu s2 ⟨x,H2,I2,rx,a,ov,ex,g,q2⟩=>?_
 subst ex;obtain rfl:u=Value.ref a:=rx
 exact QF hu I2 g ry λs3 I3=>⟨.bl (!ov.isSome),H2,I3,rfl,q2⟩
theorem QK (hu:X.A.units+1<cLine)(ho:PE X o td)(hi:PE X i ty)(hv:PE X value tv)(hs:swapsWith value (some (.Subscript o i jS)) pos.line X.env=pure false):
  PS X (.Assign [.Subscript o i jS] value pos) (afy td ty tv):=by
 intro ah s σ H D I h;refine wpAny_Assign_Subscript (cG (hv ah s σ H _ I h) λr s1 ⟨v,H1,I1,rv,q1⟩=>cG (ho ah s1 σ H1 _ I1 q1) λu s2 ⟨x,H2,I2,rx,q2⟩=>cG (hi ah s2 σ H2 _ I2 q2) λiv s3 ⟨y,H3,I3,ry,a,H4,ex,g,q3⟩=>?_) hs
 subst ex;obtain rfl:u=Value.ref a:=rx
 exact Ia hu I3 g ry rv λs4 I4=>⟨σ,H4,I4,q3⟩
theorem AQ (h:Heap)(hb:sysModules<h.objs.size):bY P w H (h.push { cls:=.type "dict",data:=.dict #[]}) h.objs.size (.dK []):=
 ⟨zcA _,beq_eq_false_iff_ne.mpr (zbj (zaq hb)),[],.nil,Heap.DictOf.new h⟩
noncomputable def Y9:TE:=λ_ H Q=>∀p,H p=none->Q (.ref p) (br H p (.dK []))
theorem K4:PE X (.Dict [] [] pos) Y9:=λah s σ H Q I h =>
 wpAny_Dict_empty ⟨.ref s.heap.objs.size,_,I.ju (a:=s.heap.objs.size) (o:=.dK []) (t':=s.toks) (λ_ _ q=>zab _ q) (zah _) (AQ s.heap I.big),rfl,h _ (I.cg.fresh (zah _))⟩
noncomputable def yR:List (TE×TE)->St->Hp->(List (V×V)->Hp->Prop)->Prop
 |[],_,H,Q=>Q [] H
 | (tk,tv)::r,σ,H,Q=>tk σ H λx H1=>tv σ H1 λy H2=>yR r σ H2 λps H3=>Q ((x,y)::ps) H3
noncomputable abbrev VV:List (V×V)->List (Value×Value)->Prop:=Paired λp q=>bG p.1 q.1/\bG p.2 q.2
noncomputable def PPs (X:Cx)(pos:Pos)(qb:List (Option Expr))(qh:List Expr)(UQ:List (TE×TE)):Prop:=
 ∀(ah:List (Addr×Obj)) (s:Shared) (σ:St) (H:Hp) (Q:List (V×V)->Hp->Prop),aI X ah σ H s->yR UQ σ H Q ->
  wpAny (model X.prog X.w) X.A (evalPairs (pairTrees qb qh X.env pos)) (λvs s'=>∃ps H',aI X ah σ H' s'/\VV ps vs/\Q ps H') X.xe s
theorem QL:PPs X pos [] [] []:=λah s σ H Q I h=>pairTrees_nil_walk ⟨[],H,I,.nil,h⟩
theorem K5 (hk:PE X k tk)(hv:PE X v tv)(hr:PPs X pos ks vs UQ):
  PPs X pos (some k::ks) (v::vs) ((tk,tv)::UQ):=λah s σ H Q I h =>
 pairTrees_cons_walk (cG (hk ah s σ H _ I h) λu s1 ⟨x,H1,I1,rx,q1⟩=>cG (hv ah s1 σ H1 _ I1 q1) λw2 s2 ⟨y,H2,I2,ry,q2⟩ =>
  cG (hr ah s2 σ H2 _ I2 q2) λws s3 ⟨ps,H3,I3,jz,q3⟩=>⟨(x,y)::ps,H3,I3,.cons ⟨rx,ry⟩ jz,q3⟩)
noncomputable def gh (aJ iu:List (dz×V)):List (dz×V):=iu.foldl (λbO kv=>kC bO kv.1 kv.2) aJ
theorem KV.AR:∀{iu:List (dz×V)} {rs:List (dz×Value)} {aJ:List (dz×V)} {vs:List (dz×Value)},KV iu rs->KV aJ vs->KV (gh aJ iu) (merged vs rs):=by
 intro iu rs aJ vs r;unfold KV at r;induction r generalizing aJ vs with
 |nil=>intro q;exact q
 | @cons p q ps qs h t ih =>
  intro r0;have e:KV (kC aJ p.1 p.2) (stored vs q.1 q.2):=by
   have:=r0.Dv p.1 h.2
   rw[<-h.1];exact this
  exact ih e
theorem nO:∀(iu aJ:List (dz×V)),(gh aJ iu).length<=aJ.length+iu.length
 |[],aJ=>by show aJ.length<=aJ.length+0;omega
 |p::r,aJ=>by
  have h1:=nO r (kC aJ p.1 p.2)
  have h2:=lZ aJ p.1 p.2;show (gh (kC aJ p.1 p.2) r).length<=_
  rw[zav];omega
theorem sS:∀{aJ:List (dz×V)} {ws:List (Value×Value)},VV (aJ.map λkv=>(kV kv.1,kv.2)) ws->∃rs,Carries (bS P w) ws rs/\KV aJ rs
 |[],_,r=>by rw[zaI] at r;cases r;exact⟨[],True.intro,.nil⟩
 |p::aJ,_,r=>by
  rw[zau] at r;cases r with
  | @cons a b as bs h t =>
   obtain⟨rs,c,q⟩:=sS (P:=P) (w:=w) t
   obtain⟨b1,b2⟩:=b;exact⟨(p.1,b2)::rs,⟨qM h.1,rfl,c⟩,.cons ⟨rfl,h.2⟩ q⟩
noncomputable def afz (UQ:List (TE×TE)):TE:=λσ H Q=>∀p,H p=none->yR UQ σ (br H p (.dK [])) λps H2=>H2 p=some (.dK [])/\∃aJ:List (dz×V),ps=aJ.map (λkv=>(kV kv.1,kv.2))/\aJ.length<=15/\Q (.ref p) (br H2 p (.dK (gh [] aJ)))
theorem QM {X:Cx}{pos:Pos}{qb:List (Option Expr)}{qh:List Expr}{UQ:List (TE×TE)}(h:PPs X pos qb qh UQ)(K6:qb.all (·.isSome)=true)(hl:qb.length=qh.length)(h0:qb≠[])
  (h15:qb.length<=15):PE X (.Dict qb qh pos) (afz UQ):=by
 intro ah s σ H Q I q;have hn:=I.cg.fresh (zah s.heap.objs.size)
 have I1:=I.ju (a:=s.heap.objs.size) (o:=.dK []) (h':=s.heap.push { cls:=.type "dict",data:=.dict #[]}) (t':=s.toks) (λ_ _ q=>zab _ q) (zah _) (AQ s.heap I.big)
 refine wpAny_Dict_walk (knd:=bS X.prog X.w) K6 hl h0 h15 (cG (h ah _ σ _ _ I1 (q _ hn)) λws s2 ⟨ps,H2,I2,jz,e,aJ,ep,lk,q2⟩=>?_)
 subst ep;obtain⟨rs,c,rk⟩:=sS (P:=X.prog) (w:=X.w) jz
 obtain⟨z,hd,vs0,r0,dd⟩:=UP I2.cg e;cases r0;refine⟨rs,c,dd,λh' CY hs=>⟨.ref s.heap.objs.size,_,?_,rfl,q2⟩⟩
 have hz:(gh [] aJ).length<=sizeLine:=by
  have h1:=nO aJ []
  rw[zbe] at h1;rw[zdy];omega
 have he:∃q,h'.get? s.heap.objs.size=some q:=let ⟨q,_,_,hq,_⟩:=CY;⟨q,hq⟩
 exact yQ I2 (by rw[e];exact True.intro) hs he (K2 hz hd (rk.AR .nil) CY)
structure M2 (X:Cx) (o:Expr) (m:Str) (eX:Pos) (e f:Expr) (gx:Pos):Prop where
 base:attributeBase o m X.env (eval o X.env)=eval o X.env
 few:((backTo gx (starEach [e,f] X.env)).all (λx=>!x.1) && (backToKw gx (keywordEach [] X.env)).all (λx=>x.1.isSome)
  && decide (([e,f]:List Expr).length+([]:List Keyword).length+(if ([]:List Keyword).isEmpty then 0 else 1)<30))=true
 line:(eX.endLine == gx.line)=true
 afB:backTo gx (starEach [e,f] X.env)=[(false,eval e X.env),(false,eval f X.env)]
noncomputable def IsD (H:Hp)(a:Addr):Prop:=(∃aJ,Rd H a (.dK aJ))\/∃aJ,Rd H a (.dT aJ)
theorem Y_ (I:aI X ah σ H s)(d:IsD H a):
  s.TypeIs (.ref a) "dict" /\ (∀b,Value.ref a = .ref b->∃ob,s.heap.get? b=some ob/\ob.dict=none)/\(a == sysModules)=false:=by
 rcases d with⟨aJ,e⟩|⟨aJ,e⟩
 ·obtain⟨_,hd,vs,_,dd⟩:=qN I.cg e
  refine⟨dd.typeIs,λb q=>?_,hd⟩
  cases q;obtain⟨ob,_,_,h1,h2,_⟩:=dd;exact⟨ob,h1,h2.2.1⟩
 ·obtain⟨_,hd,xs,_,dd⟩:=sR I.cg e
  refine⟨dd.typeIs,λb q=>?_,hd⟩
  cases q;obtain⟨ob,_,_,h1,h2,_⟩:=dd;exact⟨ob,h1,h2.2.1⟩
theorem Za (hu:A.units+1<cLine)(I:aI X ah σ H s)(g:nJ H a y o)(ry:bG y u)(rd:bG d r)(h:∀w' s',aI X ah σ H s'->bG (o.getD d) w'->Q w' s'):
  wpAny (model X.prog X.w) A (call (.builtin "dict.get") [.ref a,u,r]) Q E s:=by
 rcases g with⟨aJ,k,e,ey,l⟩|⟨aJ,k,b,e,ey,eb,l⟩
 ·subst ey
  obtain⟨z,hd,vs,jz,dd⟩:=qN I.cg e;refine call_meetsIn zde dd.typeIs zen (zeb _ _ _) (meets_dict_get_default (bS X.prog X.w) a (qM ry) hd r) ⟨_,dd.mapOf,h _ _ (I.oK _) ?_⟩
  rw[l];exact (jz.val k).getD rd
 ·subst ey
  cases (show u=Value.ref b from ry)
  obtain⟨z,hd,xs,jz,dd⟩:=sR I.cg e;refine call_meetsIn zde dd.typeIs zen (zeb _ _ _) (meetsH_dict_get_default (tupleKind (bS X.prog X.w)) a b hd r) ⟨zcw hu,k,xs,qg I.cg eb,dd,h _ _ (I.oK _) ?_⟩
  rw[l];exact (jz.val k).getD rd
noncomputable def Zb (td ty tx:TE):TE:=λσ H Q=>td σ H λx H1=>∃a,x = .ref a/\IsD H1 a/\ty σ H1 λy H2=>tx σ H2 λz H3=>∃o,nJ H3 a y o/\Q (o.getD z) H3
theorem K7 (hu:X.A.units+1<cLine)(ho:PE X o td)(he:PE X e ty)(hf:PE X f tx)(m:M2 X o "get" eX e f gx):PE X (.Call (.Attribute o "get" eX) [e,f] [] gx) (Zb td ty tx):=by
 intro ah s σ H Q I h;refine wpAny_Call_method m.base m.few m.line PySem.F.plainAttrs_dict zde PySem.F.type_dict_get (cG (ho ah s σ H _ I h) λu s1 ⟨x,H1,I1,rx,a,ex,d,q1⟩=>?_)
 subst ex;obtain rfl:u=Value.ref a:=rx
 obtain⟨t1,t2,_⟩:=Y_ I1 d;refine⟨t1,t2,?_⟩
 rw[m.afB];refine zcB rfl (zdj (zdA (cG (he ah s1 σ H1 _ I1 q1) λiv s2 ⟨y,H2,I2,ry,q2⟩ =>
  zdA (cG (hf ah s2 σ H2 _ I2 q2) λfv s3 ⟨z,H3,I3,rz,ov,g,q3⟩=>Calls.spliced_nil ?_))))
 exact Za hu I3 g ry rz λw' s4 I4 yO=>⟨_,H3,I4,yO,q3⟩
end L2
namespace HT
open PySem PyProof.Rows
section
open PySem.SeqAt
open PySem.AutoSeq1 (wpAny_loadPart')
open PySem.MeetsSeq PySem.MeetsSeq2 PySem.MeetsSeq3
end
theorem QN (ht:IsTup s.heap t vs.toArray)(hb:IsTup s.heap b ws.toArray)(hv:vs≠[])
  (h1:ws=[]->Q (.ref t) s) (h2:ws≠[]->Q (.ref s.heap.objs.size) { s with heap:=s.heap.push { cls:=.type "tuple",data:=.seq (vs++ws).toArray} })
  (hsz:vs.length+ws.length<=sizeLine):wpAny (model prog w) A (binaryOp .Add (.ref t) (.ref b)) Q E s:=by
 obtain⟨⟨cls,dd,data,sl⟩,ho,hc,n,hd⟩:=id ht
 obtain⟨⟨apA,dd2,anW,Dw⟩,ho2,hc2,n2,hd2⟩:=id hb
 simp only at hc hd hc2 hd2
 subst hc hd hc2 hd2;have e:vs.toArray++ws.toArray=(vs++ws).toArray:=by simp
 by_cases hw:ws=[]
 ·exact concat_meets ⟨_,ho,rfl⟩ ⟨_,ho2,rfl⟩ noFill_tuple_add seq_tuple_add zeo zec (zdW _ _)
   (tuple_addW1 t b vs.toArray ws.toArray n n2 dd dd2 sl Dw (by simpa using hv) (by simp[hw])) ⟨ho,ho2,h1 hw⟩
 ·refine concat_meets ⟨_,ho,rfl⟩ ⟨_,ho2,rfl⟩ noFill_tuple_add seq_tuple_add zeo zec (zdW _ _)
   (tuple_addW2 t b vs.toArray ws.toArray n n2 dd dd2 sl Dw (by simpa using hv) (by simpa using hw) (by rw[zal,zal];exact hsz)) ⟨ho,ho2,?_⟩
  rw[e];exact h2 hw
noncomputable def gj (n d:Nat):Option Int->Nat
 |none=>d
 |some v=>if v<0 then (v+(n:Int)).toNat else min v.toNat n
theorem QO (n d k:Nat):gj n d (some (k:Int))=min k n:=by
 show (if (k:Int)<0 then ((k:Int)+(n:Int)).toNat else min (k:Int).toNat n)=min k n
 rw[if_neg (by omega),zbm]
theorem Zc (n d:Nat)(hd:d<=n)(o:Option Int):gj n d o<=n:=by
 cases o with
 |none=>exact hd
 |some v =>
  show (if v<0 then (v+(n:Int)).toNat else min v.toNat n)<=n
  by_cases hv:v<0
  ·rw[if_pos hv];omega
  ·rw[if_neg hv];exact Nat.min_le_right _ _
theorem FP (v:Int)(n d:Nat):(if v<0 then max (v+(n:Int)) 0 else min v (n:Int))=((gj n d (some v):Nat):Int):=by
 show (if v<0 then max (v+(n:Int)) 0 else min v (n:Int))=(((if v<0 then (v+(n:Int)).toNat else min v.toNat n):Nat):Int)
 by_cases hv:v<0
 ·simp only[if_pos hv];omega
 ·simp only[if_neg hv];omega
theorem Dy (lo hi:Option Int)(n:Nat):Builtin.Slice.sliceAdjust lo hi 1 (n:Int)=(((gj n 0 lo:Nat):Int),((gj n n hi:Nat):Int)):=by
 have h1:¬ ((1:Int)<0):=by omega
 unfold Builtin.Slice.sliceAdjust;simp only[h1,if_false];refine Prod.ext ?_ ?_
 ·cases lo with
  |none=>rfl
  |some v=>exact FP v n 0
 ·cases hi with
  |none=>rfl
  |some v=>exact FP v n n
theorem Dz (i j:Nat):Builtin.Slice.slicePlaces (i:Int) (j:Int) 1=j - i:=by
 unfold Builtin.Slice.slicePlaces;have h1:(1:Int) > 0:=by omega
 simp only[h1,if_true,Int.ediv_one];split<;>omega
theorem sU (p:IsPart v o)(h:Q o s):wpAny (model prog w) A (Builtin.Slice.slicePartIndex v) Q E s:=by
 cases p with
 |none=>exact slicePart_none h
 |int i t=>exact slicePart_int h
theorem qi {sl:Addr}{vl vu:Value}{lo hi:Option Int}{n:Nat}{Q:Int×Int×Nat->Shared->Prop}(hs:s.heap.IsSliceOf sl vl vu .none)(pl:IsPart vl lo)(pu:IsPart vu hi)
  (h:Q (((gj n 0 lo:Nat):Int),1,gj n n hi - gj n 0 lo) s):wpAny (model prog w) A (Builtin.Slice.sliceApplied (.ref sl) (pure (n:Int))) Q E s:=by
 obtain⟨os,J9,UR,US⟩:=id hs;unfold Builtin.Slice.sliceApplied Builtin.Slice.sliceFields;refine zaa (zaa (zax J9 US (x:=vl) rfl (zaa (zax J9 US (x:=vu) rfl (zaa (zax J9 US (x:=.none) rfl (zad ?_)))))))
 refine zaa (slicePart_none ?_)
 show wpAny _ _ (if ((1:Int) == 0)=true then _ else _) _ _ s
 rw[if_neg (by decide)]
 refine zaa (sU pl (zaa (sU pu (zaa (zad ?_)))))
 show wpAny _ _ (match Builtin.Slice.sliceAdjust lo hi 1 (n:Int) with | (lo,hi)=>pure (lo,(1:Int),Builtin.Slice.slicePlaces lo hi 1)) _ _ s
 rw[Dy lo hi n];show wpAny _ _ (pure (((gj n 0 lo:Nat):Int),(1:Int),Builtin.Slice.slicePlaces ((gj n 0 lo:Nat):Int) ((gj n n hi:Nat):Int) 1)) _ _ s
 rw[Dz];exact zad h
theorem K8 (xs:Array Value)(i k:Nat):((List.range k).filterMap λ(m:Nat)=>xs[((i:Int)+(m:Int) * 1).toNat]?).toArray=((xs.toList.drop i).take k).toArray:=by
 have e:(λ(m:Nat)=>xs[((i:Int)+(m:Int) * 1).toNat]?)=λm=>xs[i+m]?:= by
  funext m
  have:((i:Int)+(m:Int) * 1).toNat=i+m:=by omega
  rw[this]
 rw[e]
 have:=pick_run xs i k
 rw[List.filterMap_map] at this;have e2:((λx=>xs[x]?) ∘ λx=>i+x)=λm=>xs[i+m]?:= rfl
 rw[e2] at this;rw[this]
theorem oW {t sl:Addr}{items:Array Value}{vl vu:Value}{lo hi:Option Int}{Q:Value->Shared->Prop}(ht:IsTup s.heap t items)(hs:s.heap.IsSliceOf sl vl vu .none)(pl:IsPart vl lo)(pu:IsPart vu hi)
  (hw:¬ (gj items.size 0 lo=0/\gj items.size items.size hi=items.size))
  (h:Q (.ref s.heap.objs.size) { s with heap:=s.heap.push { cls:=.type "tuple",data:=.seq ((items.toList.drop (gj items.size 0 lo)).take (gj items.size items.size hi - gj items.size 0 lo)).toArray} })
  (hsz:items.size<=sizeLine):wpAny (model prog w) A (getItem (.ref t) (.ref sl)) Q E s:=by
 have FQ:sizeOk (.seq ((items.toList.drop (gj items.size 0 lo)).take (gj items.size items.size hi - gj items.size 0 lo)).toArray):=by
  show ((items.toList.drop (gj items.size 0 lo)).take (gj items.size items.size hi - gj items.size 0 lo)).toArray.size<=sizeLine
  rw[zal,zaB,zck,zdr];omega
 have hj:gj items.size items.size hi<=items.size:=Zc _ _ (zah _) hi
 obtain⟨os,J9,UR,US⟩:=id hs;have hTs:s.TypeIs (.ref sl) "slice" := ⟨os,J9,UR⟩
 unfold getItem;try with_reducible refine zaD ?_
 first|refine zaa (zad ?_)|skip
 refine zaa (wpAny_sequenceKey ht.typeIs (by decide) ?_)
 refine zaa (zaN (name:=Str.ofString "__getitem__") ht.typeIs zcr
  (zaY zcr ht.typeIs entry_tuple_getitem ?_ (args_tuple_getitem _ _)))
 show wpAny _ _ (Builtin.Tuple.tupleItemsOf (.ref t) >>= _) _ _ s
 refine zaa (tupleItemsOf_ ht ?_)
 refine zaa (zcO hTs ?_)
 rw[if_pos (by decide)]
 refine zaa (qi hs pl pu ?_)
 have hno:¬ ((((gj items.size 0 lo:Nat):Int) == 0 && (1:Int) == 1 && (gj items.size items.size hi - gj items.size 0 lo) == items.size)=true):=by
  intro q;rw[zcl,zcl] at q;have q1:((gj items.size 0 lo:Nat):Int)=0:=eq_of_beq q.1.1
  have q2:gj items.size items.size hi - gj items.size 0 lo=items.size:=eq_of_beq q.2
  exact hw ⟨by omega,by omega⟩
 show wpAny _ _ (if (((gj items.size 0 lo:Nat):Int) == 0 && (1:Int) == 1 && (gj items.size items.size hi - gj items.size 0 lo) == items.size)=true then _ else _) _ _ s
 rw[if_neg hno,K8];first
  |exact zaa (m:=Builtin.Tuple.tupleExact _) (zaO (zad ⟨_,rfl,zad h⟩) FQ)
  |exact zaa (m:=Builtin.Tuple.tupleExact _) (zaO (zaa (zad (zad ⟨_,rfl,zad h⟩))) FQ)
  |exact zaa (zaa (m:=Builtin.Tuple.tupleExact _) (zaO (zad (zad ⟨_,rfl,zad h⟩)) FQ))
  |exact zaa (zaa (m:=Builtin.Tuple.tupleExact _) (zaO (zad ⟨_,rfl,zad h⟩) FQ))
end HT
namespace L2
open PySem PySem.Spec PyProof.Rows
noncomputable abbrev TO:=St->Hp->(Option Int->Hp->Prop)->Prop
noncomputable def PO (X:Cx)(e:Option Expr)(t:TO):Prop:=
 ∀(ah:List (Addr×Obj)) (s:Shared) (σ:St) (H:Hp) (Q:Option Int->Hp->Prop),aI X ah σ H s->t σ H Q ->
  wpAny (model X.prog X.w) X.A (evalPart e X.env) (λu s'=>∃o H',aI X ah σ H' s'/\IsPart u o/\Q o H') X.xe s
noncomputable def QS:TO:=λ_ H Q=>Q none H
noncomputable def afD (t:TE):TO:=λσ H Q=>t σ H λx H1=>∃i,x = .int i/\Q (some i) H1
theorem DA:∀{us:List Value},bz (ns.map V.int) us->IntsAre us ns:=by
 induction ns with
 |nil=>intro us r;rw[zaI] at r;cases r;exact .nil
 |cons n ns ih =>
  intro us r;rw[zau] at r;cases r with
  |cons r1 r2 =>
   obtain⟨t,e⟩:=r1;subst e;exact .cons n t (ih r2)
section
variable {X:Cx}{e:Expr}{te:TE}{lo hi:Option Expr}{tl th:TO}{pos p2:Pos}
theorem QT:PO X none QS:=by
 intro ah s σ H Q I h;rw[evalPart_none];exact zad ⟨none,H,I,.none,h⟩
theorem yS (h:PE X e te):PO X (some e) (afD te):=by
 intro ah s σ H Q I hw;rw[evalPart_some];refine cG (h ah s σ H _ I hw) λu s1 ⟨x,H1,I1,r1,q1⟩=>?_
 obtain⟨i,rfl,q⟩:=q1;obtain⟨t,rfl⟩:=r1;exact⟨some i,H1,I1,.int i t,q⟩
noncomputable def SlR (X:Cx)(r:V->Option Int->Option Int->Hp->VK->Prop):Prop:=
 ∀(ah:List (Addr×Obj)) (s:Shared) (σ:St) (H:Hp) (x:V) (v vl vu:Value) (lo hi:Option Int) (sl:Addr) (Q:VK),aI X ah σ H s->bG x v->s.heap.IsSliceOf sl vl vu .none->IsPart vl lo->IsPart vu hi->r x lo hi H Q ->
  ∃T id,typeLookup (.type T) "__getitem__"=pure (some (.builtin id))/\s.TypeIs v T/\wpAny (model X.prog X.w) X.A (getItem v (.ref sl)) (EP X ah σ Q) X.xe s
noncomputable def tSl (r:V->Option Int->Option Int->Hp->VK->Prop)(te:TE)(tl th:TO):TE:=λσ H Q=>te σ H λx H1=>tl σ H1 λl H2=>th σ H2 λu H3=>r x l u H3 Q
theorem K9 (hr:SlR X r)(he:PE X e te)(hl:PO X lo tl)(hu:PO X hi th):PE X (.Subscript e (.Slice lo hi none p2) pos) (tSl r te tl th):=by
 intro ah s σ H Q I h;refine Subscript_ (cG (he ah s σ H _ I h) λv s1 ⟨x,H1,I1,r1,q1⟩=>?_)
 refine wpAny_Slice (cG (hl ah s1 σ H1 _ I1 q1) λvl s2 ⟨l,H2,I2,pl,q2⟩=>cG (hu ah s2 σ H2 _ I2 q2) λvu s3 ⟨u,H3,I3,pu,q3⟩=>?_)
 rw[evalPart_none];refine zad ?_
 have I4:aI X ah σ H3 { s3 with heap:=s3.heap.push { cls:=.type "slice",data:=.fields #[vl,vu,.none]} }:=I3.gz (t':=s3.toks) λb ob q=>zab _ q
 obtain⟨T,id,hT,ht,hg⟩:=hr ah { s3 with heap:=s3.heap.push { cls:=.type "slice",data:=.fields #[vl,vu,.none]} } σ H3 x v vl vu l u s3.heap.objs.size Q I4 r1 (Heap.IsSliceOf.new ..) pl pu q3
 show wpAny (model X.prog X.w) X.A (subscriptTail e (.Slice lo hi none p2) v (.ref s3.heap.objs.size)) (EP X ah σ Q) X.xe { s3 with heap:=s3.heap.push { cls:=.type "slice",data:=.fields #[vl,vu,.none]} }
 exact tail_any (ops:=[.ref s3.heap.objs.size,v]) ht hT hg (by with_unfolding_all rfl)
noncomputable def AS (xs:List V)(lo hi:Option Int):List V:=(xs.drop (HT.gj xs.length 0 lo)).take (HT.gj xs.length xs.length hi - HT.gj xs.length 0 lo)
theorem qO (xs:List V)(lo hi:Option Int):(AS xs lo hi).length<=xs.length:=by
 unfold AS;rw[zaB,zck];omega
noncomputable def akK (K:PySem.W.Frag):V->Option Int->Option Int->Hp->VK->Prop:=λx lo hi H Q=>∃a xs,x = .ref a/\oM K H a xs /\
 ¬ (HT.gj xs.length 0 lo=0/\HT.gj xs.length xs.length hi=xs.length)/\∀p,H p=none->Q (.ref p) (br H p (.gp (AS xs lo hi)))
theorem Zd:SlR X (akK X.K):=by
 intro ah s σ H x v vl vu lo hi sl Q I rx hs pl pu h;obtain⟨a,xs,rfl,hx,hw,q⟩:=h;cases rx;obtain⟨aH,r,ht,hz⟩:=I.fD hx;have cJ:aH.toArray.size=xs.length:=by rw[zal];exact r.length.symm
 refine⟨"tuple",_,zcr.lookup,ht.typeIs,?_⟩
 refine HT.oW ht hs pl pu (by rw[cJ];exact hw) ?_ (by rw[cJ];exact hz)
 rw[cJ];refine⟨.ref s.heap.objs.size,_,I.ju (t':=s.toks) (o:=.gp (AS xs lo hi)) (λb ob q=>zab _ q) (zah _) ?_,rfl,q _ (I.cg.fresh (zah _))⟩
 exact⟨zai (qO xs lo hi) hz,_,(r.drop (HT.gj xs.length 0 lo)).take (HT.gj xs.length xs.length hi - HT.gj xs.length 0 lo),IsTup.new _ _⟩
noncomputable def afE (K:PySem.W.Frag):R2:=λx y H Q=>∃a b xs ys,x = .ref a/\y = .ref b/\oM K H a xs/\oM K H b ys/\xs≠[]/\xs.length+ys.length<=sizeLine /\
 (ys=[]->Q (.ref a) H)/\(ys≠[]->∀p,H p=none->Q (.ref p) (br H p (.gp (xs++ys))))
theorem bz.yT (r:bz xs us):us=[]↔xs=[]:=by
 cases r with
 |nil=>simp
 |cons _ _=>simp
theorem QU:jQ X (binaryOp .Add) (afE X.K):=by
 intro ah s σ H x y v u Q I rx ry h;obtain⟨a,b,xs,ys,rfl,rfl,ha,hb,hx,hz,q1,q2⟩:=h;cases rx;cases ry;obtain⟨aH,r1,p1,_⟩:=I.fD ha;obtain⟨dZ,r2,p2,_⟩:=I.fD hb;refine HT.QN p1 p2 (λz=>hx (r1.yT.mp z)) (λz=>⟨.ref a,H,I,rfl,q1 (r2.yT.mp z)⟩) (λz=>?_) (by rw[<-r1.length,<-r2.length];exact hz)
 refine⟨.ref s.heap.objs.size,_,I.ju (t':=s.toks) (o:=.gp (xs++ys)) (λb ob q=>zab _ q) (zah _) ?_,rfl,q2 (λw=>z (r2.yT.mpr w)) _ (I.cg.fresh (zah _))⟩
 exact⟨by rw[zak];exact hz,_,r1.i9 r2,IsTup.new _ _⟩
end
noncomputable def CZ (n:Nat)(i:Int):Option Nat:=if 0<=i then (if i<n then some i.toNat else none) else if -(n:Int)<=i then some (i+n).toNat else none
noncomputable def iS {α:Type}(xs:List α)(i:Int):Option α:= (CZ xs.length i).bind λj=>xs[j]?
theorem FT (h:CZ n i=some j):seqIndex? i n=some j/\j<n /\ -(n:Int)<=i/\i<n:=by
 unfold CZ at h;by_cases h0:0<=i
 ·rw[if_pos h0] at h
  by_cases h1:i<n
  ·rw[if_pos h1] at h
   have e:i.toNat=j:=zas h
   exact⟨by rw[seqIndex_of h0 h1,e],by omega,by omega,h1⟩
  ·rw[if_neg h1] at h;cases h
 ·rw[if_neg h0] at h
  by_cases h1: -(n:Int)<=i
  ·rw[if_pos h1] at h
   have e:(i+n).toNat=j:=zas h
   exact⟨by rw[seqIndex_neg (by omega) h1,e],by omega,h1,by omega⟩
  ·rw[if_neg h1] at h;cases h
theorem yU {α:Type}{xs:List α}{i:Int}{v:α}(h:iS xs i=some v):∃j,seqIndex? i xs.length=some j/\xs[j]? = some v/\j<xs.length /\ -(xs.length:Int)<=i/\i<xs.length:=by
 unfold iS at h;cases e:CZ xs.length i with
 |none=>rw[e] at h;cases h
 |some j =>
  rw[e] at h;obtain⟨h1,h2,h3,h4⟩:=FT e;exact⟨j,h1,h,h2,h3,h4⟩
theorem eZ {α:Type}{xs:List α}{j:Nat}{v:α}(h:xs[j]? = some v):iS xs (j:Int)=some v:=by
 have hj:j<xs.length:=(zae.mp h).1
 have e:CZ xs.length (j:Int)=some j:=by
  unfold CZ;rw[if_pos (by omega),if_pos (by omega)];simp
 unfold iS;rw[e];exact h
noncomputable def FU (b:Expr):Prop:=∀o i,subscripted b false o i=operate [o,i] (getItem o i)
noncomputable def QV (X:Cx)(r:R2):Prop:=
 ∀(value slice:Expr) (ah:List (Addr×Obj)) (s:Shared) (σ:St) (H:Hp) (x y:V) (v u:Value) (Q:VK),aI X ah σ H s->bG x v->bG y u->r x y H Q ->
  subscripted slice false v u=operate [v,u] (getItem v u)->wpAny (model X.prog X.w) X.A (subscriptTail value slice v u) (EP X ah σ Q) X.xe s
noncomputable def MtR (X:Cx)(id:String)(r:V->List V->Hp->VK->Prop):Prop:=
 ∀(ah:List (Addr×Obj)) (s:Shared) (σ:St) (H:Hp) (x:V) (xs:List V) (v:Value) (us:List Value) (Q:VK),aI X ah σ H s->bG x v->bz xs us->r x xs H Q ->
  wpAny (model X.prog X.w) X.A (call (.builtin id) (v::us)) (EP X ah σ Q) X.xe s
section
variable {X:Cx}{a b:Expr}{ta tb:TE}{pos:Pos}
theorem QV.or (h:QV X r)(h':QV X r'):QV X (λx y H Q=>r x y H Q\/r' x y H Q):=by
 intro value slice ah s σ H x y v u Q I rx ry q hs;rcases q with q|q
 ·exact h value slice ah s σ H x y v u Q I rx ry q hs
 ·exact h' value slice ah s σ H x y v u Q I rx ry q hs
theorem afF (hr:QV X r)(ha:PE X a ta)(hb:PE X b tb)(hs:FU b):PE X (.Subscript a b pos) (tOp r ta tb):=by
 intro ah s σ H Q I h;exact Subscript_ (YQ ha hb I h λv u s2 x y H2 I2 rx ry q=>hr a b ah s2 σ H2 x y v u Q I2 rx ry q (hs _ _))
noncomputable def afG (K:PySem.W.Frag):R2:=λx y H Q=>∃p xs i v,x = .ref p/\y = .int i/\i6 K H p xs/\iS xs i=some v/\Q v H
noncomputable def afH (K:PySem.W.Frag):R2:=λx y H Q=>∃p xs i v,x = .ref p/\y = .int i/\oM K H p xs/\iS xs i=some v/\Q v H
noncomputable def afI:R2:=λx y H Q=>∃z i c,x = .str z/\y = .int i/\z.length<=sizeLine/\iS z.cps.toList i=some c/\Q (.str ⟨#[c]⟩) H
theorem QW:QV X (afG X.K):=by
 intro value slice ah s σ H x y v u Q I rx ry h hs;obtain⟨p,xs,i,z,rfl,rfl,hq,he,q⟩:=h;cases rx;obtain⟨t,rfl⟩:=ry;obtain⟨aH,r,pl,hz⟩:=I.list hq;obtain⟨j,h1,h2,h3,h4,h5⟩:=yU he;obtain⟨w,ew,yO⟩:=r.get h2;have hl:=r.length;have hn:=qf;have fL:EP X ah σ Q w s:=⟨z,H,I,yO,q⟩
 by_cases h0:0<=i
 ·have hj:i.toNat=j:=by
   rw[seqIndex_of h0 h5] at h1;exact zas h1
  exact item_listR pl.isList h0 (by omega) (by rw[hj];simpa using ew) fL hs
 ·have hj:(i+(aH.toArray.size:Int)).toNat=j:=by
   rw[seqIndex_neg (by omega) h4] at h1
   rw[zal,<-hl];exact zas h1
  exact subscriptTail_builtinR (x:=w) pl.isList.typeIs slot_list_getitem.lookup
   (wpAny_getItem_list_neg (Q:=λr s'=>r=w/\EP X ah σ Q r s') pl.isList (by omega) (by rw[zal]<;>omega) (by omega) (by rw[hj];simpa using ew) ⟨rfl,fL⟩) hs
theorem Ze:QV X (afH X.K):=by
 intro value slice ah s σ H x y v u Q I rx ry h hs;obtain⟨p,xs,i,z,rfl,rfl,hq,he,q⟩:=h;cases rx;obtain⟨t,rfl⟩:=ry;obtain⟨aH,r,pl,hz⟩:=I.fD hq;obtain⟨j,h1,h2,h3,h4,h5⟩:=yU he;obtain⟨w,ew,yO⟩:=r.get h2;have hl:=r.length;have hn:=qf;have fL:EP X ah σ Q w s:=⟨z,H,I,yO,q⟩
 exact subscriptTail_builtinR (x:=w) pl.typeIs slot_tuple_getitem.lookup
  (getItem_tuple (j:=j) (Q:=λr s'=>r=w/\EP X ah σ Q r s') pl (by omega) (by omega) (by rw[zal,<-hl];exact h1) (by simpa using ew) ⟨rfl,fL⟩) hs
theorem Zf:QV X afI:=by
 intro value slice ah s σ H x y v u Q I rx ry h hs;obtain⟨z,i,c,rfl,rfl,hz,he,q⟩:=h;obtain⟨t,rfl⟩:=rx;obtain⟨t',rfl⟩:=ry;obtain⟨j,h1,h2,h3,h4,h5⟩:=yU he;have hl:z.cps.toList.length=z.length:=by simp[Str.length]
 rw[hl] at h1 h4 h5;have hn:=qf;exact tail_any (typeIs_str s z t) slot_str_getitem.lookup (getItem_str (c:=c) (by
  have e1:decide (i < -(2 ^ 63:Int))=false:=decide_eq_false (by omega)
  have e2:decide (i ≥ 2 ^ 63)=false:=decide_eq_false (by omega)
  rw[e1,e2,zeJ]) (by rw[h1];simpa using h2) ⟨.str ⟨#[c]⟩,H,I.oK _,⟨_,rfl⟩,q⟩) hs
noncomputable def rIx (K:PySem.W.Frag):R2:=λx y H Q=>afG K x y H Q\/afH K x y H Q\/afI x y H Q
theorem Zg:QV X (rIx X.K):=QW.or (Ze.or Zf)
theorem DB (aH:List Value)(n j:Nat)(u:Value):Obj.mapSeq (·.setIfInBounds j u) { cls:=.type "list",data:=.seq aH.toArray n} = { cls:=.type "list",data:=.seq (aH.set j u).toArray n}:=by
 simp[Obj.mapSeq]
theorem aI.aV (I:aI X ah σ H s)(h:H p=some (.aV xs)):
  ∃(aH:List Value) (n:Nat),bz xs aH/\s.heap.get? p=some { cls:=.type "list",data:=.seq aH.toArray n}/\xs.length<=sizeLine:=by
 obtain⟨z,aH,n,r,e⟩:=I.cg p _ h;exact⟨aH,n,r,e,z⟩
theorem aI.Zh {ah:List (Addr×Obj)}{σ:St}{H:Hp}{s:Shared}{p:Addr}{xs ys:List V}{aH its':List Value}{n n':Nat}{f:Obj->Obj}(I:aI X ah σ H s)(h:H p=some (.aV xs))
  (ho:s.heap.get? p=some { cls:=.type "list",data:=.seq aH.toArray n}) (hf:f { cls:=.type "list",data:=.seq aH.toArray n} = { cls:=.type "list",data:=.seq its'.toArray n' }) (r:bz ys its') (hz:ys.length<=sizeLine) (t:Nat):
  aI X ah σ (br H p (.aV ys)) {s with heap:=s.heap.update p f,toks:=t}:=by
 have e:(s.heap.update p f).get? p=some { cls:=.type "list",data:=.seq its'.toArray n' }:=by
  rw[zaU f ho (by rw[hf]<;>rfl),hf]
 refine I.jy (x:=p) (e:=p) (by rw[h];trivial) (.inl rfl) (λb u hb q=>(zaz _ _ (zbj hb)).trans q) ⟨_,e⟩ ?_
 exact⟨hz,its',n',r,e⟩
noncomputable def afJ:V->V->V->Hp->(Hp->Prop)->Prop:=λo i v H Q=>∃p xs k j,o = .ref p/\i = .int k/\H p=some (.aV xs)/\CZ xs.length k=some j/\Q (br H p (.aV (xs.set j v)))
theorem K_:YE X afJ:=by
 intro ah s σ H o i v ov iv u Q I ro ri rv h;obtain⟨p,xs,k,j,rfl,rfl,hp,hj,q⟩:=h;cases ro;obtain⟨t,rfl⟩:=ri;obtain⟨aH,n,r,ho,hz⟩:=I.aV hp;obtain⟨h1,h2,h3,h4⟩:=FT hj;have hl:=r.length;have hn:=qf;have I':aI X ah σ (br H p (.aV (xs.set j v))) {s with heap:=s.heap.update p (Obj.mapSeq (·.setIfInBounds j u))}:=
  I.Zh hp ho (DB aH n j u) (r.set rv j) (by rw[zdk];exact hz) s.toks
 by_cases h0:0<=k
 ·have hk:k.toNat=j:=by
   rw[seqIndex_of h0 h4] at h1;exact zas h1
  exact PySem.W.ki_setAt ho h0 (by omega) (by rw[zal,<-hl];exact h4) (by rw[hk];exact⟨_,I',q⟩)
 ·have hk:(k+(aH.toArray.size:Int)).toNat=j:=by
   rw[seqIndex_neg (by omega) h3] at h1
   rw[zal,<-hl];exact zas h1
  exact PySem.W.ki_setBack ho (by omega) (by rw[zal,<-hl];exact h3) (by omega) (by rw[hk];exact⟨_,I',q⟩)
theorem yV (lo hi:Option Int)(n:Nat):(sliceBounds lo hi none n).1=((HT.gj n 0 lo:Nat):Int)/\(sliceBounds lo hi none n).2.1=((HT.gj n n hi:Nat):Int)/\(sliceBounds lo hi none n).2.2=1:=by
 refine⟨?_,?_,rfl⟩
 ·cases lo with
  |none=>simp[sliceBounds,HT.gj]
  |some i =>
   simp only[sliceBounds,HT.gj,zdX,show (1:Int) > 0 by decide,if_true]
   by_cases h:i<0
   ·simp only[h,if_true]<;>omega
   ·simp only[h,if_false]<;>omega
 ·cases hi with
  |none=>simp[sliceBounds,HT.gj]
  |some i =>
   simp only[sliceBounds,HT.gj,zdX,show (1:Int) > 0 by decide,if_true]
   by_cases h:i<0
   ·simp only[h,if_true]<;>omega
   ·simp only[h,if_false]<;>omega
theorem wm (aH:List Value)(lo hi:Option Int):slicePick aH.toArray lo hi none=((aH.drop (HT.gj aH.length 0 lo)).take (HT.gj aH.length aH.length hi - HT.gj aH.length 0 lo)).toArray:=by
 obtain⟨h1,h2,h3⟩:=yV lo hi aH.toArray.size;unfold slicePick;rw[h1,h2,h3];simp only[sliceRange_one,pick_run,zal]<;>rfl
noncomputable def akL (K:PySem.W.Frag):V->Option Int->Option Int->Hp->VK->Prop:=λx lo hi H Q=>∃a xs,x = .ref a/\i6 K H a xs/\∀p,H p=none->Q (.ref p) (br H p (.aV (AS xs lo hi)))
theorem QX:SlR X (akL X.K):=by
 intro ah s σ H x v vl vu lo hi sl Q I rx hs pl pu h;obtain⟨a,xs,rfl,hx,q⟩:=h;cases rx;obtain⟨aH,r,ht,hz⟩:=I.list hx;have cJ:=r.length;refine⟨"list",_,slot_list_getitem.lookup,ht.isList.typeIs,?_⟩
 refine wpAny_getItem_list_slice ht.isList hs pl pu .none (by simp) ?_ (by rw[zal]<;>omega)
 rw[wm,<-cJ];refine⟨.ref s.heap.objs.size,_,I.ju (t':=s.toks) (o:=.aV (AS xs lo hi)) (λb ob q=>zab _ q) (zah _) ?_,rfl,q _ (I.cg.fresh (zah _))⟩
 exact⟨zai (qO xs lo hi) hz,_,0,(r.drop (HT.gj xs.length 0 lo)).take (HT.gj xs.length xs.length hi - HT.gj xs.length 0 lo),zan _ rfl⟩
noncomputable def fQ:V->Bool
 |.bw=>true
 |.bl _=>true
 |.int _=>true
 |.str _=>true
 |_=>false
noncomputable def qP:V->V->Bool
 |.bw,.bw=>true
 |.bl a,.bl b=>a == b
 |.bl a,.int b=>(if a then 1 else 0) == b
 |.int a,.bl b=>a == (if b then 1 else 0)
 |.int a,.int b=>a == b
 |.str a,.str b=>a == b
 |_,_=>false
theorem yW (ry:bG y u)(rx:bG x v)(fy:fQ y=true)(fx:fQ x=true):SeqAt.EqAt A s u v (qP y x):=by
 cases y with
 |bw =>
  cases ry;cases x with
  |bw=>cases rx;exact zeh _
  |bl b=>cases rx;exact SeqAt.EqAt.none_bool b
  |int b=>obtain⟨t,rfl⟩:=rx;exact SeqAt.EqAt.none_int b t
  |str b=>obtain⟨t,rfl⟩:=rx;exact SeqAt.EqAt.none_str b t
  |_=>exact absurd (show false=true from fx) zag
 |bl a =>
  cases ry;cases x with
  |bw=>cases rx;exact SeqAt.EqAt.bool_none a
  |bl b=>cases rx;exact SeqAt.EqAt.bool_bool a b
  |int b=>obtain⟨t,rfl⟩:=rx;exact SeqAt.EqAt.bool_int a b t
  |str b=>obtain⟨t,rfl⟩:=rx;exact SeqAt.EqAt.bool_str a b t
  |_=>exact absurd (show false=true from fx) zag
 |int a =>
  obtain⟨t',rfl⟩:=ry;cases x with
  |bw=>cases rx;exact SeqAt.EqAt.int_none a t'
  |bl b=>cases rx;exact SeqAt.EqAt.int_bool a t' b
  |int b=>obtain⟨t,rfl⟩:=rx;exact SeqAt.EqAt.int_int a t' b t
  |str b=>obtain⟨t,rfl⟩:=rx;exact zeL a t' b t
  |_=>exact absurd (show false=true from fx) zag
 |str a =>
  obtain⟨t',rfl⟩:=ry;cases x with
  |bw=>cases rx;exact SeqAt.EqAt.str_none a t'
  |bl b=>cases rx;exact SeqAt.EqAt.str_bool a t' b
  |int b=>obtain⟨t,rfl⟩:=rx;exact zeM a t' b t
  |str b=>obtain⟨t,rfl⟩:=rx;exact SeqAt.EqAt.str_str a t' b t
  |_=>exact absurd (show false=true from fx) zag
 |_=>exact absurd (show false=true from fy) zag
noncomputable def DC (x:V)(u:Value):Bool:=match u with
 |.none=>qP .bw x
 |.bool b=>qP (.bl b) x
 |.int i _=>qP (.int i) x
 |.str z _=>qP (.str z) x
 |_=>false
theorem La (r:bG y u)(f:fQ y=true):DC x u=qP y x:=by
 cases y with
 |bw=>cases r;rfl
 |bl b=>cases r;rfl
 |int i=>obtain⟨t,rfl⟩:=r;rfl
 |str z=>obtain⟨t,rfl⟩:=r;rfl
 |_=>exact absurd (show false=true from f) zag
theorem oX:∀{xs:List V} {us:List Value},bz xs us->xs.all fQ=true->us.any (DC x)=xs.any λy=>qP y x
 |_,_,.nil,_=>rfl
 |y::xs,u::us,.cons r t,f=>by
  rw[zaG,zcl] at f;rw[zcs,zcs,La r f.1,oX t f.2]
theorem l_ (rx:bG x v)(fx:fQ x=true):∀{xs:List V} {us:List Value},bz xs us->xs.all fQ=true->∀u∈us,SeqAt.EqAt A s u v (DC x u)
 |_,_,.nil,_=>λu hu=>by cases hu
 |y::xs,u::us,.cons r t,f=>λu' hu=>by
  rw[zaG,zcl] at f;rcases zap.mp hu with rfl|hu
  ·rw[La r f.1];exact yW r rx f.1 fx
  ·exact l_ rx fx t f.2 u' hu
noncomputable def inV (x:V)(xs:List V):Bool:=xs.any λy=>qP y x
noncomputable def rIn (K:PySem.W.Frag)(neg:Bool):R2:=λx y H Q=>∃p xs,y = .ref p/\(i6 K H p xs\/oM K H p xs)/\fQ x=true/\xs.all fQ=true/\Q (.bl (if neg then !inV x xs else inV x xs)) H
theorem Ic:jQ X (compareOp .In) (rIn X.K false):=by
 intro ah s σ H x y v u Q I rx ry h;obtain⟨p,xs,rfl,hq,fx,fs,q⟩:=h;cases ry;rcases hq with hq|hq
 ·obtain⟨aH,r,pl,hz⟩:=I.list hq
  refine SeqAt.in_listAt (DC x) pl.isList (λw hw=>l_ rx fx r fs w (by simpa using hw)) ⟨.bl _,H,I,rfl,?_⟩
  rw[show aH.toArray.any (DC x)=aH.any (DC x) by simp,oX r fs]
  exact q
 ·obtain⟨aH,r,pl,hz⟩:=I.fD hq
  refine SeqAt.in_tupleAt (DC x) pl (λw hw=>l_ rx fx r fs w (by simpa using hw)) ⟨.bl _,H,I,rfl,?_⟩
  rw[show aH.toArray.any (DC x)=aH.any (DC x) by simp,oX r fs]
  exact q
theorem yX:jQ X (compareOp .NotIn) (rIn X.K true):=by
 intro ah s σ H x y v u Q I rx ry h;obtain⟨p,xs,rfl,hq,fx,fs,q⟩:=h;cases ry;rcases hq with hq|hq
 ·obtain⟨aH,r,pl,hz⟩:=I.list hq
  refine SeqAt.notIn_listAt (DC x) pl.isList (λw hw=>l_ rx fx r fs w (by simpa using hw)) ⟨.bl _,H,I,rfl,?_⟩
  rw[show aH.toArray.any (DC x)=aH.any (DC x) by simp,oX r fs]
  exact q
 ·obtain⟨aH,r,pl,hz⟩:=I.fD hq
  refine SeqAt.notIn_tupleAt (DC x) pl (λw hw=>l_ rx fx r fs w (by simpa using hw)) ⟨.bl _,H,I,rfl,?_⟩
  rw[show aH.toArray.any (DC x)=aH.any (DC x) by simp,oX r fs]
  exact q
theorem yY:jQ X (compareOp .NotIn) (λx y H Q=>∃i j,x = .str i/\y = .str j/\Q (.bl (!(!(Builtin.Str.occurrences j i 0 j.length 1).isEmpty))) H):=by
 intro ah s σ H x y v u Q I rx ry h;obtain⟨i,j,rfl,rfl,q⟩:=h;obtain⟨t,rfl⟩:=rx;obtain⟨t',rfl⟩:=ry;exact notIn_str ⟨.bl _,H,I,rfl,q⟩
theorem yZ:ja X (.builtin "len") (λxs H Q=>∃p ys,xs=[.ref p]/\(i6 X.K H p ys\/oM X.K H p ys)/\Q (.int ys.length) H):=by
 intro ah s σ H xs us Q I r h;obtain⟨p,ys,rfl,hq,q⟩:=h;obtain⟨u,rfl,rx⟩:=lX r;cases rx;have hn:=qf;rcases hq with hq|hq
 ·obtain⟨aH,r',pl,hz⟩:=I.list hq
  have cJ:=r'.length;exact Calls.call_len_list pl.isList (by simp only[zal]<;>omega) ⟨.int ys.length,H,I.oK _,⟨s.toks+1,by rw[zal,cJ]⟩,q⟩
 ·obtain⟨aH,r',pl,hz⟩:=I.fD hq
  have cJ:=r'.length;exact len_tuple pl (by simp only[zal]<;>omega) ⟨.int ys.length,H,I.oK _,⟨s.toks+1,by rw[zal,cJ]⟩,q⟩
theorem y9:ja X (.builtin "len") (λxs H Q=>∃z,xs=[.str z]/\z.length<=sizeLine/\Q (.int z.length) H):=by
 intro ah s σ H xs us Q I r h;obtain⟨z,rfl,hz,q⟩:=h;obtain⟨u,rfl,t,rfl⟩:=lX r;have hn:=qf;exact len_str (by omega) ⟨.int z.length,H,I.oK _,⟨_,rfl⟩,q⟩
theorem y_:ja X (.type "list") (λxs H Q=>∃p ys,xs=[.ref p]/\(i6 X.K H p ys\/oM X.K H p ys)/\∀l,H l=none->Q (.ref l) (br H l (.aV ys))):=by
 intro ah s σ H xs us Q I r h;obtain⟨p,ys,rfl,hq,q⟩:=h;obtain⟨u,rfl,rx⟩:=lX r;cases rx;have fL:∀(aH:List Value),bz ys aH->ys.length<=sizeLine->∀(h':Heap) (c':Nat),(∀b o',s.heap.get? b=some o'->h'.get? b=some o') ->
   h'.get? s.heap.objs.size=some { cls:=.type "list",dict:=none,data:=.seq aH.toArray c',slots:=#[]}->EP X ah σ Q (.ref s.heap.objs.size) {s with heap:=h' }:=λaH r' hz h' c' kp e =>
  ⟨.ref s.heap.objs.size,_,I.ju (t':=s.toks) kp (zah _) (show bY X.prog X.w _ h' _ (.aV ys) from ⟨hz,aH,c',r',e⟩),rfl,q _ (I.cg.fresh (zah _))⟩
 rcases hq with hq|hq
 ·obtain⟨aH,r',pl,hz⟩:=I.list hq
  have cJ:=r'.length;obtain⟨o,ho,hc,n,hd⟩:=pl.isList;exact call_list_seq p (.inl rfl) ho hc hd (λh' c' kp e=>fL aH r' hz h' c' kp e) (by simp only[zal]<;>omega)
 ·obtain⟨aH,r',pl,hz⟩:=I.fD hq
  have cJ:=r'.length;obtain⟨o,ho,hc,n,hd⟩:=pl;exact call_list_seq p (.inr rfl) ho hc hd (λh' c' kp e=>fL aH r' hz h' c' kp e) (by simp only[zal]<;>omega)
theorem nP:ja X (.type "tuple") (λxs H Q=>∃p ys,xs=[.ref p]/\((i6 X.K H p ys/\∀l,H l=none->Q (.ref l) (br H l (.gp ys)))\/(oM X.K H p ys/\Q (.ref p) H))):=by
 intro ah s σ H xs us Q I r h;obtain⟨p,ys,rfl,h⟩:=h;obtain⟨u,rfl,rx⟩:=lX r;cases rx;rcases h with⟨hq,q⟩|⟨hq,q⟩
 ·obtain⟨aH,r',pl,hz⟩:=I.list hq
  have cJ:=r'.length;refine call_tuple_list pl.isList (λh' kp=>?_) (by simp only[zal]<;>omega)
  have I1:aI X ah σ H {s with heap:=h' }:=I.gz (t':=s.toks) kp
  have I2:aI X ah σ (br H h'.objs.size (.gp ys)) { s with heap:=h'.push { cls:=.type "tuple",data:=.seq aH.toArray} }:=
   I1.ju (t':=s.toks) (λb o e=>zab _ e) (zah _) (show bY X.prog X.w _ _ _ (.gp ys) from ⟨hz,aH,r',IsTup.new _ _⟩)
  exact⟨.ref h'.objs.size,_,I2,rfl,q _ (I1.cg.fresh (zah _))⟩
 ·obtain⟨aH,r',pl,hz⟩:=I.fD hq
  exact call_tuple_same pl ⟨.ref p,H,I,rfl,q⟩
noncomputable def tyV (K:PySem.W.Frag)(T:String)(x:V)(H:Hp):Prop:=match x with
 |.str _=>T="str"
 |.int _=>T="int"
 |.ref p=>(T="list" /\ ∃xs,i6 K H p xs)\/(T="tuple" /\ ∃o,K.lookup p=some o/\o.cls = .type "tuple" /\ o.dict=none) \/
   (T="dict" /\ ((∃aJ,H p=some (.dK aJ))\/∃aJ,H p=some (.dT aJ)))\/(T="set" /\ ∃S n,H p=some (.set S n))
 |_=>False
theorem Lb (I:aI X ah σ H s)(r:bG x v)(ty:tyV X.K T x H):
  s.TypeIs v T/\∀a,v = .ref a->∃ob,s.heap.get? a=some ob/\ob.dict=none:=by
 cases x with
 |str z =>
  obtain⟨t,rfl⟩:=r;cases (show T="str" from ty)
  exact⟨typeIs_str s z t,λ_ e=>nomatch e⟩
 |int i =>
  obtain⟨t,rfl⟩:=r;cases (show T="int" from ty)
  exact⟨typeIs_int s i t,λ_ e=>nomatch e⟩
 |ref p =>
  cases r;rcases ty with⟨rfl,xs,hq⟩|⟨rfl,o,hk,hc,hd⟩|⟨rfl,hk⟩|⟨rfl,S,n,hk⟩
  ·obtain⟨aH,_,pl,_⟩:=I.list hq
   refine⟨pl.isList.typeIs,λa e=>?_⟩
   cases e;obtain⟨o,n,e,c,hd,_⟩:=pl;exact⟨o,e,hd⟩
  ·refine⟨⟨o,I.kj p o hk,hc⟩,λa e=>?_⟩
   cases e;exact⟨o,I.kj _ o hk,hd⟩
  ·have z:∃o,s.heap.get? p=some o/\o.ExactDict:=by
    rcases hk with⟨aJ,hk⟩|⟨aJ,hk⟩
    ·obtain⟨_,_,_,_,o,_,_,e,ex,_⟩:=I.cg p _ hk
     exact⟨o,e,ex⟩
    ·obtain⟨_,_,_,_,o,_,_,e,ex,_⟩:=I.cg p _ hk
     exact⟨o,e,ex⟩
   obtain⟨o,e,ex⟩:=z;refine⟨⟨o,e,ex.1⟩,λa e2=>?_⟩
   cases e2;exact⟨o,e,ex.2.1⟩
  ·obtain⟨o,_,_,_,e,ex,_⟩:=I.cg p _ hk
   refine⟨⟨o,e,ex.1⟩,λa e2=>?_⟩
   cases e2;exact⟨o,e,ex.2.1⟩
 |_=>exact False.elim ty
noncomputable def akM (K:PySem.W.Frag)(T:String)(r:V->List V->Hp->VK->Prop)(to:TE):TE:=λσ H Q=>to σ H λx H1=>tyV K T x H1/\r x [] H1 Q
noncomputable def tBM (K:PySem.W.Frag)(T:String)(r:V->List V->Hp->VK->Prop)(to:TE)(t:TA):TE:=λσ H Q=>to σ H λx H1=>tyV K T x H1/\t σ H1 λxs H2=>r x xs H2 Q
variable {o e:Expr}{es:List Expr}{to:TE}{t:TA}{name:Str}{eX gx:Pos}{T id:String}{r:V->List V->Hp->VK->Prop}
theorem Zi (pa:PlainAttrs T)(slot:Slot T name id)(Zj:typeOf (.builtin id)=pure (.type "method_descriptor"))(hm:MtR X id r)(ho:PE X o to)
  (sV:attributeBase o name X.env (eval o X.env)=eval o X.env:=by rfl) (sW:(eX.endLine == gx.line)=true:=by rfl):PE X (.Call (.Attribute o name eX) [] [] gx) (akM X.K T r to):=by
 intro ah s σ H Q I h;refine wpAny_Call_method0_late sV sW (cG (ho ah s σ H _ I h) λv s1 ⟨x,H1,I1,r1,ty,q1⟩=>?_)
 obtain⟨h1,h2⟩:=Lb I1 r1 ty;exact⟨T,id,pa,slot,Zj,h1,h2,zcB rfl (PySem.evalArgs_none (hm ah s1 σ H1 x [] v [] Q I1 r1 .nil q1))⟩
theorem afK (pa:PlainAttrs T)(slot:Slot T name id)(Zj:typeOf (.builtin id)=pure (.type "method_descriptor"))(hm:MtR X id r)(ho:PE X o to)(ha:PA X (e::es) t)
  (sV:attributeBase o name X.env (eval o X.env)=eval o X.env:=by rfl)
  (akN:((backTo gx (starEach (e::es) X.env)).all (λx=>!x.1) && (backToKw gx (keywordEach [] X.env)).all (λx=>x.1.isSome)
   && decide ((e::es).length+([]:List Keyword).length+(if ([]:List Keyword).isEmpty then 0 else 1)<30))=true:=by rfl)
  (sW:(eX.endLine == gx.line)=true:=by rfl) (hs:starEach (e::es) X.env=(false,eval e X.env)::starEach es X.env:=by rfl) (Zk:(backTo gx (starEach es X.env)).any (·.1)=false:=by rfl):
  PE X (.Call (.Attribute o name eX) (e::es) [] gx) (tBM X.K T r to t):=by
 intro ah s σ H Q I h;refine wpAny_Call_method_late sV akN sW rfl (cG (ho ah s σ H _ I h) λv s1 ⟨x,H1,I1,r1,ty,q1⟩=>?_)
 obtain⟨h1,h2⟩:=Lb I1 r1 ty;refine⟨T,id,pa,slot,Zj,h1,h2,?_⟩
 have hA:=ha gx ah s1 σ H1 _ I1 q1;rw[hs] at hA ⊢
 refine zcB (by show (false || (backTo gx (starEach es X.env)).any (·.1))=false;rw[Zk]<;>rfl) (zdj ?_)
 exact cG hA λus s2 ⟨vs,H2,I2,r2,q2⟩=>hm ah s2 σ H2 x vs v us Q I2 r1 r2 q2
end
noncomputable def MtM (X:Cx)(id:String)(r:V->List V->Hp->VK->Prop):Prop:=
 ∀(ah:List (Addr×Obj)) (s:Shared) (σ:St) (H:Hp) (x:V) (xs:List V) (v:Value) (us:List Value) (Q:VK),aI X ah σ H s->bG x v->bz xs us->r x xs H Q ->
  wpAny (model X.prog X.w) X.A (call (.builtin id) (v::us)) (EP X ah σ Q) X.xe s
theorem bz.v_:∀{x:V} {us:List Value},bz [x] us->∃u,us=[u]/\bG x u
 |_,_,.cons r .nil=>⟨_,rfl,r⟩
theorem bz.two:∀{x y:V} {us:List Value},bz [x,y] us->∃u v,us=[u,v]/\bG x u/\bG y v
 |_,_,_,.cons r (.cons q .nil)=>⟨_,_,rfl,r,q⟩
theorem bz.zero:∀{us:List Value},bz [] us->us=[]
 |_,.nil=>rfl
theorem bz.dropLast (h:bz xs us):bz xs.dropLast us.dropLast:=by
 induction h with
 |nil=>exact .nil
 |cons r t ih =>
  cases t with
  |nil=>exact .nil
  |cons q t'=>exact .cons r ih
theorem bz.rep (h:bz xs us):∀k:Nat,bz (List.replicate k xs).flatten (List.replicate k us).flatten
 |0=>.nil
 |k+1=>by
  rw[zay,zay,zcf,zcf];exact bz.i9 h (bz.rep h k)
theorem DE {α:Type}(l:List α):l.eraseIdx (l.length - 1)=l.dropLast:=by
 induction l with
 |nil=>rfl
 |cons a r ih =>
  cases r with
  |nil=>rfl
  |cons b r =>
   have e:(a::b::r).length - 1=((b::r).length - 1)+1:=by
    have h1:(a::b::r).length=r.length+2:=rfl
    have h2:(b::r).length=r.length+1:=rfl
    omega
   rw[e,List.eraseIdx_cons_succ,ih];all_goals rfl
theorem xo (aH:List Value):∀(k:Nat) (bO:List Value),
  List.foldl (λx1 x2=>x1++x2) bO.toArray (List.replicate k aH.toArray)=(bO++(List.replicate k aH).flatten).toArray
 |0,bO=>by simp
 |k+1,bO=>by
  have e:bO.toArray++aH.toArray=(bO++aH).toArray:=by simp
  have e2:(bO++aH)++(List.replicate k aH).flatten=bO++(List.replicate (k+1) aH).flatten:=by
   rw[zay,zcf,zbJ]
  rw[<-e2,<-xo aH k (bO++aH),<-e,zay,zbn]
theorem aI.Lc {aH its':List Value}{n:Nat}{f:Array Value->Array Value}{t':Nat}(I:aI X ah σ H s)(hH:H l=some (.aV xs))
  (e:s.heap.get? l=some { cls:=.type "list",data:=.seq aH.toArray n}) (hf:f aH.toArray=its'.toArray) (hv:bz ys its') (hz:ys.length<=sizeLine):
  aI X ah σ (br H l (.aV ys)) {s with heap:=s.heap.update l (Obj.mapSeq f),toks:=t' }:=by
 have q:=PySem.IsL.update e f;rw[hf] at q;refine I.jy (x:=l) (e:=l) (by rw[hH];exact trivial) (.inl rfl) (λb' u hb hu=>(zaz s.heap (Obj.mapSeq f) (zbj hb)).trans hu) ⟨_,q⟩ ?_
 exact⟨hz,its',_,hv,q⟩
theorem aI.afM (I:aI X ah σ H s)(hv:bz ys aH)(hz:ys.length<=sizeLine):
  aI X ah σ (br H s.heap.objs.size (.aV ys)) { s with heap:=s.heap.push { cls:=.type "list",data:=.seq aH.toArray},toks:=t' }:=
 I.ju (λ_ _ q=>zab _ q) (zah _) ⟨hz,aH,0,hv,zan _ rfl⟩
theorem aI.fresh (I:aI X ah σ H s):H s.heap.objs.size=none:=I.cg.fresh (zah _)
theorem aI.wo (I:aI X ah σ H s)(hH:H l=some (.aV xs)):xs.length<=sizeLine/\∃(aH:List Value) (n:Nat),bz xs aH/\xs.length=aH.length/\s.heap.get? l=some { cls:=.type "list",data:=.seq aH.toArray n}:=by
 obtain⟨z,aH,n,r,e⟩:=I.cg l _ hH;exact⟨z,aH,n,r,r.length,e⟩
theorem oY (h:n<=sizeLine):Builtin.List.listTooLong n=false:=by
 unfold Builtin.List.listTooLong;exact decide_eq_false (by omega)
noncomputable def QY:V->List V->Hp->VK->Prop:=λx vs H Q=>∃l xs y,x = .ref l/\vs=[y]/\H l=some (.aV xs)/\xs.length<sizeLine/\Q .bw (br H l (.aV (xs++[y])))
theorem xq:MtM X "list.append" QY:=by
 intro ah s σ H x vs v us Q I rx rv h;obtain⟨l,xs,y,rfl,rfl,hH,hz,q⟩:=h;cases rx;obtain⟨u,rfl,ru⟩:=rv.v_;obtain⟨z,aH,n,r,hl,e⟩:=I.wo hH;refine zcV F.slot_list_append ⟨_,e,rfl⟩ F.entry_list_append (F.args_list_append_2 _ _) (PySem.list_append l aH.toArray n u (by rw[zal];omega)) ⟨e,?_⟩
 refine⟨.bw,_,I.Lc (its':=aH++[u]) hH e (by simp) (r.i9 (.cons ru .nil)) ?_,rfl,q⟩
 rw[zak,zbo];omega
noncomputable def QZ:V->List V->Hp->VK->Prop:=λx vs H Q=>∃l b xs zs,x = .ref l/\vs=[.ref b]/\H l=some (.aV xs)/\H b=some (.aV zs)/\xs.length+zs.length<=sizeLine/\Q .bw (br H l (.aV (xs++zs)))
theorem Ie:MtM X "list.extend" QZ:=by
 intro ah s σ H x vs v us Q I rx rv h;obtain⟨l,b,xs,zs,rfl,rfl,hH,hB,hz,q⟩:=h;cases rx;obtain⟨u,rfl,ru⟩:=rv.v_;cases ru;obtain⟨z,aH,n,r,hl,e⟩:=I.wo hH;obtain⟨z2,dZ,n2,r2,Ig,e2⟩:=I.wo hB;have hsz:aH.toArray.size+dZ.toArray.size<=sizeLine:=by rw[zal,zal];omega
 have Ld:¬ (!aH.toArray.isEmpty && Builtin.List.listTooLong (aH.toArray.size+dZ.toArray.size))=true:=by
  rw[oY hsz,Bool.and_false];exact zag
 refine zcV F.slot_list_extend ⟨_,e,rfl⟩ F.entry_list_extend (F.args_list_extend_2 _ _)
  (AutoSeq1.list_extend_list_list_0 l aH.toArray n b dZ.toArray n2 Ld (by rw[zal];omega) (by omega)) ⟨e,e2,?_⟩
 refine⟨.bw,_,I.Lc (its':=aH++dZ) hH e (by simp) (r.i9 r2) ?_,rfl,q⟩
 rw[zak];omega
noncomputable def akO:V->List V->Hp->VK->Prop:=λx vs H Q=>∃l xs y,x = .ref l/\vs=[]/\H l=some (.aV xs)/\xs[xs.length - 1]? = some y/\Q y (br H l (.aV xs.dropLast))
theorem akP:MtM X "list.pop" akO:=by
 intro ah s σ H x vs v us Q I rx rv h;obtain⟨l,xs,y,rfl,rfl,hH,hy,q⟩:=h;cases rx;have hus:=rv.zero;subst hus;obtain⟨z,aH,n,r,hl,e⟩:=I.wo hH;obtain⟨u,hu,ru⟩:=r.get hy;have hy':aH.toArray[aH.toArray.size - 1]? = some u:=by
  show aH.toArray[aH.length - 1]? = some u
  rw[<-Array.getElem?_toList,<-hl];exact hu
 refine zcV F.slot_list_pop ⟨_,e,rfl⟩ F.entry_list_pop (F.args_list_pop_1 _) (MeetsSeq.list_pop_last l aH.toArray n u hy' (by rw[zal];omega)) ⟨e,?_⟩
 refine⟨y,_,I.Lc (its':=aH.dropLast) hH e ?_ r.dropLast ?_,ru,q⟩
 ·show aH.toArray.eraseIdxIfInBounds (aH.toArray.size - 1)=aH.dropLast.toArray
  rw[zal,List.eraseIdxIfInBounds_toArray,DE]
 ·rw[List.length_dropLast]
  omega
noncomputable def Zl:V->List V->Hp->VK->Prop:=λx vs H Q=>∃l xs,x = .ref l/\vs=[]/\H l=some (.aV xs)/\Q .bw (br H l (.aV []))
theorem Le:MtM X "list.clear" Zl:=by
 intro ah s σ H x vs v us Q I rx rv h;obtain⟨l,xs,rfl,rfl,hH,q⟩:=h;cases rx;have hus:=rv.zero;subst hus;obtain⟨z,aH,n,r,hl,e⟩:=I.wo hH;refine zcV F.slot_list_clear ⟨_,e,rfl⟩ F.entry_list_clear (F.args_list_clear_1 _) (AutoSeq1.list_clear_list_0 l aH.toArray n (by rw[zal];omega)) ⟨e,?_⟩
 exact⟨.bw,_,I.Lc (its':=[]) (ys:=[]) hH e rfl .nil (zcA _),rfl,q⟩
noncomputable def akR:R2:=λx y H Q=>∃l b xs zs,x = .ref l/\y = .ref b/\H l=some (.aV xs)/\H b=some (.aV zs)/\xs.length+zs.length<=sizeLine/\∀p,H p=none->Q (.ref p) (br H p (.aV (xs++zs)))
theorem Zm:jQ X (binaryOp .Add) akR:=by
 intro ah s σ H x y v u Q I rx ry h;obtain⟨l,b,xs,zs,rfl,rfl,hH,hB,hz,q⟩:=h;cases rx;cases ry;obtain⟨z,aH,n,r,hl,e⟩:=I.wo hH;obtain⟨z2,dZ,n2,r2,Ig,e2⟩:=I.wo hB;refine PySem.P.add_list e e2 ?_ (by rw[zal,zal];omega)
 have ea:aH.toArray++dZ.toArray=(aH++dZ).toArray:=by simp
 rw[ea];exact⟨.ref _,_,I.afM (t':=s.toks) (r.i9 r2) (by rw[zak];omega),rfl,q _ I.fresh⟩
noncomputable def akS:R2:=λx y H Q=>∃l k xs,x = .ref l/\y = .int k/\H l=some (.aV xs) /\ -(2 ^ 63)<=k/\k<2 ^ 63/\xs.length * k.toNat<=sizeLine /\
 ∀p,H p=none->Q (.ref p) (br H p (.aV (List.replicate k.toNat xs).flatten))
theorem Q0 {α:Type}(xs:List α)(k:Nat):(List.replicate k xs).flatten.length=k * xs.length:=by
 induction k with
 |zero=>simp
 |succ k ih=>rw[zay,zcf,zak,ih,Nat.succ_mul,Nat.add_comm]
theorem Zn:jQ X (binaryOp .Mult) akS:=by
 intro ah s σ H x y v u Q I rx ry h;obtain⟨l,k,xs,rfl,rfl,hH,h1,h2,hz,q⟩:=h;cases rx;obtain⟨t,rfl⟩:=ry;obtain⟨z,aH,n,r,hl,e⟩:=I.wo hH;have cJ:aH.toArray.size * k.toNat<=sizeLine:=by rw[zal,<-hl];exact hz
 have akT:¬ aH.toArray.size * k.toNat > (2 ^ 63 - 1) / 8:=by
  have:(sizeLine:Nat)<=(2 ^ 63 - 1) / 8:=by decide
  omega
 have akU:¬ (!Builtin.List.listFitsIndex k)=true:=by
  rw[fitsIndex_both h1 h2];exact zag
 have Ld:¬ Builtin.List.listTooLong (aH.toArray.size * k.toNat)=true:=by
  rw[oY cJ];exact zag
 have Lg:List.foldl (λx1 x2=>x1++x2) #[] (List.replicate (if aH.toArray.isEmpty=true then 0 else k.toNat) aH.toArray)=(List.replicate k.toNat aH).flatten.toArray:=by
  have f0:∀m:Nat,List.foldl (λx1 x2=>x1++x2) #[] (List.replicate m aH.toArray)=(List.replicate m aH).flatten.toArray:=λm=>by
   have:=xo aH m []
   rw[zaX] at this;exact this
  rw[f0];cases aH with
  |nil=>simp
  |cons a r'=>rw[if_neg (by simp)]
 refine wpAny_binaryOp_repeat_ref (T:= "list") (U:= "int") (by decide) ⟨_,e,rfl⟩ (λs'=>typeIs_int s' k t) noFill_list_mul F.fills_int_mul F.slot_int_rmul repeat_list F.slot_int_index.lookup
  (zcV F.slot_int_rmul (typeIs_int s k t) F.entry_int_rmul (F.args_int_rmul_2 _ _) (int___rmul___int_list k t l aH.toArray n)
   ⟨e,rfl,⟨_,e,rfl⟩,zcV F.slot_list_mul ⟨_,e,rfl⟩ F.entry_list_mul (F.args_list_mul_2 _ _) (AutoListH.list___mul___list_int_3 l aH.toArray n k t akU akT Ld) ⟨e,?_⟩⟩)
 rw[Lg];exact⟨.ref _,_,I.afM (t':=s.toks) (r.rep k.toNat) (by rw[Q0,Nat.mul_comm];exact hz),rfl,q _ I.fresh⟩
theorem Ih (aH dZ:List Value)(a c:Nat):aH.toArray.extract 0 a++dZ.toArray++aH.toArray.extract c aH.toArray.size=(aH.take a++dZ++aH.drop c).toArray:=by
  apply Array.toList_inj.mp
  first
    | (simp
       exact zby (by simp))
    |simp[zby]
    |simp
theorem DF {a c n:Nat}(hac:a<=c)(hc:c<=n):sliceBounds (some (a:Int)) (some (c:Int)) none n=((a:Int),(c:Int),1):=by
 simp only[sliceBounds,zdX];have h1:¬ ((a:Int)<0):=by omega
 have h2:¬ ((c:Int)<0):=by omega
 simp only[h1,h2,if_false,show (1:Int) > 0 by decide,if_true]
 congr 1
 ·omega
 ·congr 1;omega
set_option maxRecDepth 100000 in
theorem wu {l b sl:Addr}{items new:Array Value}{n n2:Nat}{vl vu:Value}{a c:Nat}{Q:Unit->Shared->Prop}
    (e:s.heap.get? l=some { cls:=.type "list",data:=.seq items n}) (e2:s.heap.get? b=some { cls:=.type "list",data:=.seq new n2}) (qj:l≠b)
    (hs:s.heap.IsSliceOf sl vl vu .none) (pl:IsPart vl (some (a:Int))) (pu:IsPart vu (some (c:Int))) (hac:a<=c) (hc:c<=items.size)
    (hsz:items.size+new.size<=sizeLine) (h:Q () {s with heap:=s.heap.update l (Obj.mapSeq λxs=>xs.extract 0 a++new++xs.extract c xs.size)}):
    wpAny (model prog w) A (setItem (.ref l) (.ref sl) (.ref b)) Q E s:=by
  have hl:s.heap.IsList l items:=PySem.IsL.isList e
  have hb:s.heap.IsList b new:=PySem.IsL.isList e2
  obtain⟨os,J9,UR,US⟩:=id hs;have hTs:s.TypeIs (.ref sl) "slice" := ⟨os,J9,UR⟩
  have afN:¬ ((rawPart none == rawInt 0)=true):=zag
  have Lh:Builtin.List.listSameRef (.ref l) (.ref b)=false:=by
    unfold Builtin.List.listSameRef;exact beq_eq_false_iff_ne.mpr qj
  have akV:(max (a:Int) (c:Int)).toNat=c:=by omega
  have Ii:((λxs:Array Value=>xs.extract 0 a++new++xs.extract c xs.size) items).size<=sizeLine+1:=by
    simp only[zdL,Array.size_extract];omega
  unfold setItem;try with_reducible refine zaD ?_
  first|refine zaa (zad ?_)|skip
  refine zaa (wpAny_sequenceKey hl.typeIs (by decide) ?_)
  refine zaa (zaN (name:=Str.ofString "__setitem__") hl.typeIs slot_list_setitem
    (zaY slot_list_setitem hl.typeIs entry_list_setitem ?_ (args_list_setitem _ _ _)))
  show wpAny _ _ (Builtin.List.listSubscript? (.ref sl) >>= _) _ _ s
  refine zaa ?_
  unfold Builtin.List.listSubscript?
  refine zaa (zeg hTs slice_no_index ?_)
  simp only[zdB,if_true];refine zad ?_
  show wpAny _ _ (typeOf (.ref sl) >>= _) _ _ s
  refine zaa (zcO hTs ?_)
  first
    |rw[if_neg (by decide)]
    |refine zdC (by decide) ?_
  rw[listSliceParts_eq];refine zaa (zaa (zax J9 US (x:=.none) rfl (zaa (zev .none ?_))))
  rw[if_neg afN];refine zaa (zax J9 US (x:=vl) rfl (zaa (zev pl ?_)))
  refine zaa (zax J9 US (x:=vu) rfl (zaa (zev pu (zad ?_))))
  first
    |simp only[Lh,zbp,if_false]
    |refine zdC Lh ?_
    | (dsimp only
       rw[if_neg (by rw[Lh];exact zag)])
  refine zaa (m:=Builtin.List.listAllItems (.ref b) "must assign iterable to extended slice") ?_
  unfold Builtin.List.listAllItems;refine zaa (zcO hb.typeIs ?_)
  first
    |refine PySem.W.KFB.if_so (by decide) ?_
    |rw[if_pos (by decide)]
    |simp only[beq_self_eq_true,Bool.true_or,if_true]
  unfold Builtin.List.listItems;refine zaa (zbl e2 rfl (zad ?_))
  refine zaa (zaa (zbl e rfl (zad ?_)))
  refine zaa (wpAny_of_eq ((sliceIndices_raw (some (a:Int)) (some (c:Int)) none items.size (by simp)).trans (congrArg (pure:Int×Int×Int->Sem (Int×Int×Int)) (DF hac hc))) ?_)
  show wpAny _ _ (if ((1:Int) == 1)=true then _ else _) _ _ s
  rw[if_pos (by decide)]
  refine zaa (zcU ?_)
  first
    |simp only[oY hsz,zbp,if_false]
    |refine zdC (oY hsz) ?_
  first|refine zaa (zad ?_)|skip
  show wpAny _ _ (updateSeq l (λxs=>xs.extract 0 ((a:Int)).toNat++new++xs.extract (max (a:Int) (c:Int)).toNat xs.size) >>= _) _ _ s
  rw[akV,zbm];refine zaa (wpAny_updateSeq (hz:=zai (zaZ _ _) hsz) (_hz':=Ii) e rfl ?_)
  refine zaa (zeq ?_)
  first
    |exact zaa (zad (zad ⟨.none,rfl,zad h⟩))
    |exact zad ⟨.none,rfl,zad h⟩
end L2
namespace Att
open PySem PySem.W PySem.Calls PyProof.Rows
theorem rE:∀(ns:List Int) (vs:List Value),WellAll P h vs (ns.map WData.int)->IntsAre vs ns:=by
 intro ns;induction ns with
 |nil =>
  intro vs w;rw[zaI] at w;cases w;exact .nil
 |cons n ns ih =>
  intro vs w;rw[zau] at w;cases w with
  |cons a b =>
   cases a;exact .cons _ _ (ih _ b)
theorem Ij {l:OpenLaw}{n:Nat}(hn:l.most=some n){P:Params}{h:Heap}{args:List WData}{Zo:List Value}
  (Q2:l.row.toRowW.claim.pre args=true) (hwl:WellAll P h Zo args):
  ∃a vs ns,Zo=[Value.ref a]/\args=[WData.list (ns.map WData.int)]/\h.get? a=some { cls:=.type "list",data:=.seq vs.toArray}/\IntsAre vs ns/\ns.length<=n:=by
 have hsh:WShape.hasAll [] args [.list .int]=true:=(pre_splitW Q2).1
 have hc:l.pre.holds [] {args:=args}=true:=(pre_splitW Q2).2
 obtain⟨d,r,rfl,h1,h2⟩:=hasAllW_cons hsh;obtain rfl:=hasAllW_nil h2
 obtain⟨xs,rfl,h3⟩:=hasW_list h1;obtain⟨ns,rfl⟩:=items_int h3;have cJ:ns.length<=n:=by
  unfold OpenLaw.pre at hc;have h4:(WTm.not (.lt (.lit (.int (n:Int))) (.len (.arg 0)))).holds [] {args:=[.list (ns.map .int)]}=true:=by
   have h4:=(holds_andW hc).1
   rw[hn] at h4;exact h4
  have h5:=condW_of h4 (w_not (w_lt w_lit (w_len_list (w_arg rfl))))
  rw[zaf] at h5;refine Nat.le_of_not_lt λq=>?_
  have q':(n:Int)<((ns.length:Nat):Int):=by omega
  first
   | (rw[decide_eq_true q'] at h5;exact absurd h5 (by decide))
   | (simp at h5;omega)
 cases hwl with
 |cons w1 w2 =>
  cases w2;cases w1 with
  |list ho K6=>exact⟨_,_,ns,rfl,rfl,ho,rE ns _ K6,cJ⟩
theorem Ik (l:OpenLaw)(args:List WData):l.row.toRowW.claim.post args (.bool true) args=true:=
 postW_of (r:=l.row.toRowW) (X:=(true == true))
  (show WShape.has [] (.bool true) .bool=true by first|rfl|decide|simp[WShape.has,WShape.arms,WShape.armsAll])
  (show (WTm.eq .res (.lit (.bool true))).value [] {args:=args,res:=some (.bool true),after:=args}=some (.bool (true == true)) from w_eq_bool (w_res rfl) w_lit) rfl
theorem AU {l:OpenLaw}{n:Nat}{q:Program}{xr:List Str}{XP:(Str->Option Value)->Heap->Prop}{YP:World->Heap->Prop}{d:DefRec}
  (hn:l.most=some n) (hdf:d.params.defaults=[])
  (call:∀(w:World) (s₀ cI:Shared) (mg mb:Str->Option Value) (fa:Addr) (o:Obj) (pm cd nW:Value) (a:Addr) (vs:List Value) (ns:List Int),
   Ground q xr [] XP w s₀ mg mb cI.heap->YP w cI.heap ->
   cI.heap.get? fa=some o->o.data = .func (docDef d.name d.params d.body d.scope pm cd nW)->cI.heap.CodeRec cd d.name->mg d.name=some (.ref fa) ->
   cI.heap.get? a=some { cls:=.type "list",data:=.seq vs.toArray}->IntsAre vs ns->ns.length<=n->cI.gens = #[] ->
   codeAny (model l.prog w) callerA (.call (.ref fa) ⟨[.ref a],[]⟩) (λr s'=>r = .ok (.ret (.bool true))/\OldK cI.heap s'.heap/\s'.os=cI.os/\AllBare s'.gens) cI):
  WalkO q xr XP YP l.row.toRowW d [] (λf vs=>PySem.call f vs):=by
 intro w s₀ cI mg mb G Y fa o pm cd nW dV kV ho hd AG hD hmg hg args Zo as Q2 apF hrd hwl hlo;obtain rfl:dV = .none:=Dflts.none hD hdf
 obtain rfl:kV = .none:=Dflts.noKw hD
 obtain⟨a,vs,ns,rfl,rfl,Zp,Li,cJ⟩:=Ij hn Q2 hwl;refine enter_call (zcM (call w s₀ cI mg mb fa o pm cd nW a vs ns G Y ho (fd_plain hd) AG hmg Zp Li cJ hg) λr s' hq=>?_)
 obtain⟨rfl,h2,h3,h4⟩:=hq;exact⟨.inl ⟨.bool true,.bool true,[],rfl,λ_=>rfl,.bool true,Ik l _,λ_=>⟨List.Pairwise.nil,λ_ hm=>(nomatch hm)⟩⟩,h2,h3,h4⟩
section
variable {prog:Program}{w:World}{A:Around}{E:Value->Shared->Prop}{s:Shared}{K:Frag}
end
end Att
namespace L2
open PySem PySem.Spec PyProof.Rows
theorem xu:∀{vs:List Value} {ns:List Int},IntsAre vs ns->bz (ns.map V.int) vs
 |_,_,.nil=>.nil
 |_,_,.cons n t h=>.cons ⟨t,rfl⟩ (xu h)
noncomputable def bH (H:Hp):Prop:=∀b,H b=none\/∃o xs,H b=some (.p_ o (.aV xs))
theorem Lj {P:Program}{w:World}{K:PySem.W.Frag}{mg mb:Str->Option Value}{CX:CW}{k:Nat}{fa a:Addr}{fd:FuncData}{x:Str}{sp:Sp}{cI:Shared}{vs:List Value}{ns:List Int}
  (KX:K.In cI.heap) (Il:cI.heap.Ns mainGlobals mg) (hb:cI.heap.Ns builtinsNs mb) (hbb:∀x:Str,x ≠ "__name__" -> mb x=bootBuiltins x) (akZ:cI.heap.NoLimit) (hg:cI.gens = #[])
  (ha:cI.heap.get? a=some { cls:=.type "list",data:=.seq vs.toArray}) (hi:IntsAre vs ns) (hl:ns.length<=sizeLine) (hr:gP k callerA)
  (F:∀base:Heap,K.In base->base.Ns mainGlobals mg->aO P w K mg base CX k fa fd [x] sp) (afP:∀(s:Shared) (u:Value),BindsTo s fd ⟨[u],[]⟩ [(x,u)])
  (J8:∀H:Hp,bH H->i6 K H a (ns.map V.int)->sp [.ref a] H (λv _=>v = .bl true) λ_ _ _=>False)
  (hCX:∀H e s',CX [] H cI (λ_ _ _=>False) e s'->False):
  codeAny (model P w) callerA (.call (.ref fa) ⟨[.ref a],[]⟩) (λr s'=>r = .ok (.ret (.bool true))/\OldK cI.heap s'.heap/\s'.os=cI.os/\AllBare s'.gens) cI:=by
 have rv:=xu hi;have ak1:=hi.length;-- from an abstract heap in an2 ajA but wW Kq may be yN
 have afQ:∀H:Hp,bH H->i6 K H a (ns.map V.int)->nI P w H cI.heap->(∀b,H b≠none->b=a)->(H a≠none->K.lookup a=none) ->
   codeAny (model P w) callerA (.call (.ref fa) ⟨[.ref a],[]⟩) (λr s'=>r = .ok (.ret (.bool true))/\OldK cI.heap s'.heap/\s'.os=cI.os/\AllBare s'.gens) cI:=by
  intro H hO hS cg hA hK;have FW:∀{b:Addr} {o:Obj},cI.heap.get? b=some o->H b=none->(yM cI.heap H).get? b=some o:=λe n=>Kr e n
  have noA:∀{b:Addr} {o:Obj} {es:Array DictEntry} {ep:Nat},cI.heap.get? b=some o->o.data = .dict es ep->H b=none:=λ{b o es ep} e d=>by
   cases q:H b with
   |none=>rfl
   |some u =>
    have e':b=a:=hA b (by rw[q];simp)
    subst e';rw[ha] at e;cases e
    have d':Data.seq vs.toArray _=Data.dict es ep:=d
    cases d'
  have nsK:∀{b:Addr} {m:Str->Option Value},cI.heap.Ns b m->(yM cI.heap H).Ns b m:=λ{b m} ⟨o,es,ep,e,d,r⟩=>⟨o,es,ep,FW e (noA e d),d,r⟩
  have hKb:K.In (yM cI.heap H):=λb o e=>FW (KX b o e) (by
   cases q:H b with
   |none=>rfl
   |some u =>
    have e':b=a:=hA b (by rw[q];simp)
    subst e';rw[hK (by rw[q];simp)] at e;cases e)
  have hM:Mod K mg (yM cI.heap H):=⟨hKb,nsK Il,⟨mb,nsK hb,hbb⟩,let ⟨mc,h1,h2⟩:=akZ;⟨mc,nsK h1,h2⟩⟩
  have e0:Dq P w K mg (yM cI.heap H) callerA [] cI H:=⟨rfl,hM,λb o e=>Qd e,Nat.le_of_eq (HK _ _),trivial,λb hb=>absurd (show b∈([]:List Addr) from hb) (by simp),cg,.of_eq hg⟩
  refine zcM ((F _ hKb (nsK Il)).ku callerA [] cI H ⟨[.ref a],[]⟩ [.ref a] [.ref a] _ _ hr e0 (afP cI (.ref a)) (.cons rfl .nil) (J8 H hO hS)) λr s' h=>?_
  cases r with
  |error e=>exact (hCX H e s' h).elim
  |ok fl =>
   cases fl with
   |next=>exact False.elim h
   |brk=>exact False.elim h
   |cont=>exact False.elim h
   |ret u =>
    obtain⟨v,H',os,iR,un,ak2,r',q⟩:=h;have q':v = .bl true:=q
    subst q';obtain rfl:u=Value.bool true:=r'
    refine⟨rfl,OldK.of_keep λb o e=>?_,os,iR⟩
    cases q:H b with
    |none=>exact un.keep b o e q (by intro z;exact absurd (show b∈([]:List Addr) from z) (by simp)) (by simp)
    |some u =>
     rcases hO b with z|⟨ob,xs,z⟩
     ·rw[q] at z;cases z
     ·have z2:=un.sE b ob _ z
      obtain⟨e1,_⟩:=cg b _ z;obtain⟨e2,_⟩:=ak2 b _ z2;rw[e] at e1;cases e1
      exact e2
 cases hk:K.lookup a with
 |some o =>
  -- wW Kq is v_ of wW afR sD Qn
  have e:=KX a o hk;rw[ha] at e;cases e;refine afQ (λ_=>none) (λ_=>.inl rfl) (.inr ⟨_,vs.toArray,_,hk,rfl,rfl,rfl,by rw[zal,ak1];exact hl,by simpa using rv⟩) (λb u z=>by have z':(none:Option HO)=some u:=z;cases z') (λb z=>absurd rfl z) λz=>absurd rfl z
 |none =>
  refine afQ (λb=>if b=a then some (.p_ { cls:=.type "list",data:=.seq vs.toArray} (.aV (ns.map V.int))) else none) (λb=>?_) (.inl (.inr ⟨{ cls:=.type "list",data:=.seq vs.toArray},if_pos rfl⟩)) (λb u z=>?_) (λb z=>?_) λ_=>hk
  ·by_cases hb:b=a
   ·exact .inr ⟨_,_,if_pos hb⟩
   ·exact .inl (if_neg hb)
  ·by_cases hb:b=a
   ·have z':=(if_pos hb).symm.trans z
    cases z';subst hb;exact⟨ha,by rw[zaf];exact hl,vs,_,rv,ha⟩
   ·have z':=(if_neg hb).symm.trans z
    cases z'
  ·by_cases hb:b=a
   ·exact hb
   ·exact absurd (if_neg hb) z
theorem Q3 {l:PySem.W.OpenLaw}{n k:Nat}{q:Program}{xr:List Str}{XP:(Str->Option Value)->Heap->Prop}{YP:World->Heap->Prop}{d:DefRec}{K:Params->PySem.W.Frag}{CX:World->CW}{sp:World->Sp}{x:Str}
  (hn:l.most=some n) (PZ:n<=sizeLine) (hdf:d.params.defaults=[]) (hr:gP k callerA)
  (hY:∀(w:World) (h:Heap),YP w h->(K w.params).In h)
  (F:∀(w:World) (mg:Str->Option Value) (fa:Addr) (h:Heap),(K w.params).In h->h.Ns mainGlobals mg->mg d.name=some (.ref fa) ->
   ∃fd:FuncData,(∀(s:Shared) (u:Value),BindsTo s fd ⟨[u],[]⟩ [(x,u)]) /\
    ∀base:Heap,(K w.params).In base->base.Ns mainGlobals mg->aO l.prog w (K w.params) mg base (CX w) k fa fd [x] (sp w))
  (J8:∀(w:World) (H:Hp) (a:Addr) (ns:List Int),ns.length<=n->bH H->i6 (K w.params) H a (ns.map V.int)->sp w [.ref a] H (λv _=>v = .bl true) λ_ _ _=>False)
  (hCX:∀(w:World) (H:Hp) (s:Shared) (e:Value) (s':Shared),CX w [] H s (λ_ _ _=>False) e s'->False):
  PySem.W.WalkO q xr XP YP l.row.toRowW d [] (λf vs=>PySem.call f vs):=by
 refine Att.AU hn hdf λw s₀ cI mg mb fa o pm cd nW a vs ns G Y ho hd AG hmg Zp Li cJ hg=>?_
 have KX:=hY w _ Y;obtain⟨fd,hb,hF⟩:=F w mg fa _ KX G.T.g hmg;exact Lj KX G.T.g G.T.b G.T.builtins G.T.nolimit hg Zp Li (zai cJ PZ) hr hF hb (λH hO hS=>J8 w H a ns cJ hO hS) λH e s'=>hCX w H cI e s'
noncomputable def aY (s:Stmt)(j:Nat):Stmt:=match s with
 |.ClassDef _ _ _ body _ _ _ _ _ _ _=>body.getD j (.Pass ⟨0,0,0,0⟩)
 |_=>.Pass ⟨0,0,0,0⟩
noncomputable def d9 (s:Stmt):Arguments:=match s with
 |.FunctionDef _ a _ _ _ _ _ _ _ _=>a
 |_=>{posonlyargs:=[],args:=[],vararg:=none,kwonlyargs:=[],kw_defaults:=[],kwarg:=none,defaults:=[]}
noncomputable def cR (s:Stmt):List Stmt:=match s with
 |.FunctionDef _ _ b _ _ _ _ _ _ _=>b
 |_=>[]
noncomputable def ak (s:Stmt):Scope:=match s with
 |.FunctionDef _ _ _ _ _ _ sc _ _ _=>sc
 |_=>{kind:=.function,names:=[],isGenerator:=false,isCoroutine:=false}
noncomputable abbrev eS:CW:=λ_ _ _ _ _ _=>False
noncomputable abbrev E0:XK:=λ_ _ _=>False
structure J_ (K:PySem.W.Frag) (x bX:Str) (st:Stmt) (f:Addr) (fd:FuncData):Prop where
 ex:∃(oc:Value) (od:Option Addr) (kV nW pm:Value) (an:Option Addr) (fC ct:Value) (Du:Array (Option Value)),
  fd=PySem.W.fnOf x bX (d9 st) (cR st) (ak st) .none kV nW pm an fC ct/\K.lookup f=some ⟨oc,od,.func fd,Du⟩/\PySem.W.codeIn K fC bX=true
 kp:PySem.W.keepIn K (.ref f)=true
section
variable {P:Program}{w:World}{K:PySem.W.Frag}{mg:Str->Option Value}{base:Heap}
theorem J_.ok {x bX:Str}{st:Stmt}{f:Addr}{fd:FuncData}{N ps:List Str}{k:Nat}{sp:Sp}(F:J_ K x bX st f fd)(S:au N ps (ak st))(len:∀vs H Q E,sp vs H Q E->vs.length=ps.length)
  (sQ:∀(fC:Value) (A:Around) (outer:List Env) (s:Shared) (H:Hp) (vs:List V) (Q:VK) (E:XK),gP k (A.deeper (envOfC bX (ak st) s.heap.objs.size f fC))->sp vs H Q E ->
   ∃t,wg (jw eS P w K mg base N bX (ak st) f fC A outer s H E).CV (cR st) t/\t {nx:=λ_ H'=>Q .bw H',rt:=Q} (cV N vs) H):aO P w K mg base eS (k+1) f fd ps sp:=by
 obtain⟨oc,od,kV,nW,pm,an,fC,ct,Du,rfl,lk,AG⟩:=F.ex;refine K1 lk AG S len λA outer s H vs Q E hr J8=>?_
 obtain⟨t,h,q⟩:=sQ fC A outer s H vs Q E hr J8;exact⟨t,h.CV,q⟩
theorem J_.qL {x bX:Str}{st:Stmt}{f:Addr}{fd:FuncData}{ps:List Str}(F:J_ K x bX st f fd)
  (h:∀(kV nW pm:Value) (an:Option Addr) (fC ct:Value) (us:List Value),us.length=ps.length->bindArgs (PySem.W.fnOf x bX (d9 st) (cR st) (ak st) .none kV nW pm an fC ct) ⟨us,[]⟩=pure (ps.zip us)):eO K fd ps []:=by
 obtain⟨oc,od,kV,nW,pm,an,fC,ct,Du,rfl,lk,AG⟩:=F.ex;exact .all (h kV nW pm an fC ct)
theorem zc {x bX:Str}{st:Stmt}{f:Addr}{oc:Value}{od an:Option Addr}{Du:Array (Option Value)}{kV nW pm fC ct:Value}(l:K.lookup f=some ⟨oc,od,.func (PySem.W.fnOf x bX (d9 st) (cR st) (ak st) .none kV nW pm an fC ct),Du⟩)
  (c:PySem.W.codeIn K fC bX=true) (k:PySem.W.keepIn K (.ref f)=true):J_ K x bX st f (PySem.W.fnOf x bX (d9 st) (cR st) (ak st) .none kV nW pm an fC ct):=⟨⟨oc,od,kV,nW,pm,an,fC,ct,Du,rfl,l,c⟩,k⟩
end
theorem pv (i:Nat)(hN:X.N[i]? = some x:=by rfl)(hv:Vis X.env.scope x:=by first|exact Or.inl rfl|exact Or.inr (Or.inl rfl)|exact Or.inr (Or.inr rfl))(hd:(x == ("__debug__" : Str))=false:=by decide)
  (AG:(x == ("__classdict__" : Str))=false:=by decide):PE X (.Name x pos) (aeT i):=Ku hN hv hd AG
theorem Im:ja X (.builtin "len") (λxs H Q=>∃a aJ,xs=[V.ref a]/\H a=some (.dK aJ)/\Q (.int aJ.length) H):=by
 intro ah s σ H xs us Q I r h;obtain⟨a,aJ,rfl,ha,q⟩:=h;obtain⟨u,rfl,ru⟩:=lX r;cases ru;exact afv I (.inl ha) λt s' I'=>⟨.int aJ.length,H,I',⟨t,rfl⟩,q⟩
theorem zd {A B:Prop}(h:B):if false=true then A else B:=by
 rw[if_neg zag];exact h
theorem ze {A B:Prop}(h:A):if true=true then A else B:=by
 rw[if_pos rfl];exact h
section
variable {κ:Type}[DecidableEq κ]
end
noncomputable def oZ (env:Env):List (Str×NameKind)->List (Str×Addr)->List (Str×Addr)
 |[],cs=>cs
 | (n,k)::r,cs=>oZ env r (if (k == NameKind.free)=true then (match env.cells.lookup n with|some c=>(n,c)::cs|none=>cs) else cs)
theorem DG (h:∀p∈scope.names,p.2 = .free->∃c,env.cells.lookup p.1=some c):closureFor scope env=pure (oZ env scope.names []):=by
 have key:∀(l:List (Str×NameKind)) (cs:List (Str×Addr)),(∀p∈l,p.2 = .free->∃c,env.cells.lookup p.1=some c) ->
   (forIn l cs λ(x:Str×NameKind) (r:List (Str×Addr))=>match x with
    | (name,kind)=>if (kind == NameKind.free)=true then do let a <-cellOf env name;pure (ForInStep.yield ((name,a)::r)) else pure (ForInStep.yield r):Sem (List (Str×Addr)))=pure (oZ env l cs):=by
  intro l;induction l with
  |nil=>intro cs _;rfl
  |cons p r ih =>
   intro cs hl;obtain⟨n,k⟩:=p;rw[List.forIn_cons];have hr:=λcs=>ih cs λq hq=>hl q (zaP _ hq)
   show (_ >>= _)=pure (oZ env r (if (k == NameKind.free)=true then (match env.cells.lookup n with|some c=>(n,c)::cs|none=>cs) else cs))
   by_cases hk:(k == NameKind.free)=true
   ·obtain⟨c,hc⟩:=hl (n,k) zbR (by simpa using hk)
    dsimp only at hc ⊢
    rw[if_pos hk,if_pos hk,hc];have e:cellOf env n=pure c:=by unfold cellOf;rw[hc]
    rw[e,pure_bind,pure_bind];exact hr _
   ·dsimp only
    rw[if_neg hk,if_neg hk,pure_bind];exact hr _
 unfold closureFor;rw[show (pure (oZ env scope.names []):Sem (List (Str×Addr)))=(pure (oZ env scope.names []) >>= λr=>pure r) from (bind_pure _).symm,<-key scope.names [] h]
theorem mh:∀{l:List (Str×NameKind)} {cs:List (Str×Addr)},(oZ env l cs).lookup x=some c->cs.lookup x=some c\/env.cells.lookup x=some c
 |[],_,h=>.inl h
 | (n,k)::r,cs,h=>by
  rcases mh (l:=r) h with q|q
  ·by_cases hk:(k == NameKind.free)=true
   ·rw[if_pos hk] at q
    cases e:env.cells.lookup n with
    |none=>rw[e] at q;exact .inl q
    |some d =>
     rw[e] at q;dsimp only at q
     rw[zaT] at q;cases hx:x == n with
     |true =>
      rw[hx] at q;have:x=n:=by simpa using hx
      subst this;dsimp only at q
      rw[<-q];exact .inr e
     |false=>rw[hx] at q;exact .inl q
   ·rw[if_neg hk] at q;exact .inl q
  ·exact .inr q
theorem sX:∀{l:List (Str×NameKind)} {cs:List (Str×Addr)},((x,NameKind.free)∈l/\(∃c,env.cells.lookup x=some c))\/(∃c,cs.lookup x=some c)->∃c,(oZ env l cs).lookup x=some c
 |[],cs,h=>by
  rcases h with⟨h,_⟩|h
  ·exact absurd h (by simp)
  ·exact h
 | (n,k)::r,cs,h=>by
  refine sX (l:=r) ?_
  rcases h with⟨h,hc⟩|h
  ·rcases zap.mp h with e|h
   ·have e1:x=n:=congrArg (·.1) e
    have e2:NameKind.free=k:=congrArg (·.2) e
    subst e1 e2;obtain⟨c,hc⟩:=hc;refine .inr ⟨c,?_⟩
    rw[if_pos (by decide),hc]
    simp[zaT]
   ·exact .inl ⟨h,hc⟩
  ·obtain⟨c,hc⟩:=h
   right
   by_cases hk:(k == NameKind.free)=true
   ·rw[if_pos hk]
    cases e:env.cells.lookup n with
    |none=>exact⟨c,hc⟩
    |some d =>
     dsimp only;rw[zaT];cases hx:x == n with
     |true=>exact⟨d,rfl⟩
     |false=>exact⟨c,hc⟩
   ·rw[if_neg hk];exact⟨c,hc⟩
theorem kD {env:Env}:∀{names:List (Str×NameKind)} {k:NameKind},
  (names.map λ(p:Str×NameKind)=>match p with | (n,k)=>if (k == NameKind.free && env.scope.kind == .function && env.kindOf n == some .cell)=true then (n,NameKind.cell) else (n,k)).lookup x=some k ->
  ∃k',names.lookup x=some k'/\(k'=k\/(k' = .free/\k = .cell))
 |[],_,h=>by simp at h
 | (n,k0)::r,k,h=>by
  rw[zau] at h;by_cases hc:(k0 == NameKind.free && env.scope.kind == .function && env.kindOf n == some .cell)=true
  ·dsimp only at h
   rw[if_pos hc,zaT] at h;rw[zaT];cases hx:x == n with
   |true =>
    rw[hx] at h;have e:NameKind.cell=k:=zas h
    have e0:k0 = .free:=by
     simp only[zcl,beq_iff_eq] at hc;exact hc.1.1
    exact⟨k0,rfl,.inr ⟨e0,e.symm⟩⟩
   |false=>rw[hx] at h;exact kD (names:=r) h
  ·dsimp only at h
   rw[if_neg hc,zaT] at h;rw[zaT];cases hx:x == n with
   |true=>rw[hx] at h;exact⟨k0,rfl,.inl (zas h)⟩
   |false=>rw[hx] at h;exact kD (names:=r) h
theorem kE {env:Env}:∀{names:List (Str×NameKind)},names.lookup x=some .free ->
  (names.map λ(p:Str×NameKind)=>match p with | (n,k)=>if (k == NameKind.free && env.scope.kind == .function && env.kindOf n == some .cell)=true then (n,NameKind.cell) else (n,k)).lookup x=some .cell \/
  (names.map λ(p:Str×NameKind)=>match p with | (n,k)=>if (k == NameKind.free && env.scope.kind == .function && env.kindOf n == some .cell)=true then (n,NameKind.cell) else (n,k)).lookup x=some .free
 |[],h=>by simp at h
 | (n,k0)::r,h=>by
  rw[zau];rw[zaT] at h;by_cases hc:(k0 == NameKind.free && env.scope.kind == .function && env.kindOf n == some .cell)=true
  ·dsimp only
   rw[if_pos hc,zaT];cases hx:x == n with
   |true=>exact .inl rfl
   |false=>rw[hx] at h;exact kE (names:=r) h
  ·dsimp only
   rw[if_neg hc,zaT];cases hx:x == n with
   |true=>rw[hx] at h;exact .inr h
   |false=>rw[hx] at h;exact kE (names:=r) h
theorem zf (I:Nat->Shared->Prop)
  (Dd:∀n s,I n s->wpAny (model prog w) A (pyNext it) (λr cI=>match r with
   |none=>R (.ok .next) cI
   |some v=>wpAny (model prog w) A (letOwnedTupleGo target it v) (λ_ UT=>wpAny (model prog w) A (assign target env v) (λ_ lW =>
     wpAny (model prog w) A (forIn rF true λc r=>if r=true then do let ok <-isTrue c env (eval c env);pure (ForInStep.yield ok) else pure (ForInStep.yield r)) (λok wj =>
      if ok=true then wpAny (model prog w) A (eval Av env) (λx afS =>
       wpAny (model prog w) A (call (.builtin "list.append") [bO,x]) (λ_ afT=>∃m,m<n/\I m afT) (notedBy (model prog w) A env λe s'=>R (.error e) s') afS) (notedBy (model prog w) A env λe s'=>R (.error e) s') wj
      else ∃m,m<n/\I m wj) (notedBy (model prog w) A env λe s'=>R (.error e) s') lW) (notedBy (model prog w) A env λe s'=>R (.error e) s') UT) (notedBy (model prog w) A env λe s'=>R (.error e) s') cI) (notedBy (model prog w) A env λe s'=>R (.error e) s') s)
  (n:Nat) (h:I n s):
  codeAny (model prog w) A (.compLoop (.ListComp Av [⟨target,d8,rF,0⟩] scope pos) 0 it bO env) R s:=by
 refine codeAny_loop rfl I (λn s hI=>?_) n h
 show wpAny _ A ((compTurn (.ListComp Av [⟨target,d8,rF,0⟩] scope pos) 0 it bO env).onRaise (λx=>do noteFrame x env;theTreesLotGoes x)) _ _ s
 refine wpAny_noted ?_
 rw[compTurn_list];refine zaa (zcc (zaa (zaQ (Dd n s hI) (λr cI QI=>?_) λ_ _ h'=>h')))
 cases r with
 |none=>exact zad QI
 |some v =>
  refine zaa (zaQ QI (λ_ UT afU=>?_) λ_ _ h'=>h')
  refine zaa (zaQ afU (λ_ lW K3=>zaa (zaQ K3 (λok wj QJ=>?_) λ_ _ h'=>h')) λ_ _ h'=>h')
  cases ok with
  |false=>exact zad ⟨rfl,QJ⟩
  |true =>
   exact zaa (zaa (zaQ QJ (λx afS ak3=>zaa (zaQ ak3 (λ_ afT ak4=>zad (zad ⟨rfl,ak4⟩)) λ_ _ h'=>h')) λ_ _ h'=>h'))
noncomputable def qQ (X:Cx)(N:List Str)(sc:Scope)(C:Addr)(fp:List Addr)(s:Shared)(H:Hp)(xe:Value->Shared->Prop):Cx:=
 {X with N:=N,s₀:= s,H₀:= H,env:=compEnvC sc (oZ X.env sc.names []) C X.env,outer:=X.cY,ex:=fp,fn:=λ_=>false,pn:=[],xe:=xe}
noncomputable def DH (X:Cx)(rF:List Expr)(t:TT):Prop:=
 ∀(ah:List (Addr×Obj)) (s:Shared) (σ:St) (H:Hp) (Q:Bool->Hp->Prop),aI X ah σ H s->t σ H Q ->
  wpAny (model X.prog X.w) X.A (forIn rF true λc r=>if r=true then do let ok <-isTrue c X.env (eval c X.env);pure (ForInStep.yield ok) else pure (ForInStep.yield r)) (TP X ah σ Q) X.xe s
noncomputable def afV:TT:=λ_ H Q=>Q true H
theorem Q4:DH X [] afV:=λah s σ H Q I h=>wpAny_tests_nil ⟨H,I,h⟩
theorem Q5 (h:PT X c t):DH X [c] t:=λah s σ H Q I q=>wpAny_tests_one (h ah s σ H Q I q)
structure dB (X:Cx) (F T:List Str) (fr:List Nat) (sc:Scope):Prop where
 kind:sc.kind = .function
 Lk:∀y∈sc.names,y.2 ≠ .cell
 locals:∀y∈sc.names,y.2 = .local->sc.names.lookup y.1=some .local
 Ll:∀y∈sc.names,y.2 = .free->X.env.kindOf y.1=some .cell
 Zq:∀x∈F,sc.names.lookup x=some .free
 eqs:fr.map (λj=>X.N[j]?)=F.map some
theorem dB.len (S:dB X F T fr sc):fr.length=F.length:=by
 have:=congrArg List.length S.eqs
 simpa using this
theorem dB.sM (S:dB X F T fr sc)(i:Nat)(x:Str)(h:F[i]? = some x):∃j,fr[i]? = some j/\X.N[j]? = some x:=by
 have e:=congrArg (λl=>l[i]?) S.eqs
 simp only[zar,h,zbY] at e;cases q:fr[i]? with
 |none=>rw[q] at e;cases e
 |some j=>rw[q] at e;exact⟨j,rfl,zas e⟩
noncomputable def kF (fr:List Nat)(T:List Str)(σ:St):St:=(fr.map λj=>(σ[j]?).join)++T.map λ_=>none
noncomputable def FY (wi:TI)(fr:List Nat)(T:List Str)(g:TG)(ti:TT)(te:TE):TE:=λσ H Q=>wi σ H λJ H1=>∀D,H1 D=none ->
  ∃W:Nat->Nat->St->List V->Hp->Prop,(∃m,W 0 m (kF fr T σ) [] (br H1 D (.aV [])))/\∀i m dP xs H',W i m dP xs H'->H' D=some (.aV xs) /\
    ((J.stop i H'/\Q (.ref D) H')\/(J.go i H'/\∃N:St->List V->Hp->Prop,(∀vU ys H2,N vU ys H2->∃m',m' < m/\W (i+1) m' vU ys H2)/\∀x H2,J.yld i H' x H2->g x dP H2 λvU H3=>ti vU H3 λb H4 =>
      if b=true then te vU H4 λv H5=>H5 D=some (.aV xs)/\xs.length<sizeLine/\N vU (xs++[v]) (br H5 D (.aV (xs++[v]))) else N vU xs H4))
theorem Zr (S:dB X F T fr sc)(I:aI X ah σ H s)
  (UU:∀b∈fp,qd X ah H b) (hfo:∀b∈fp,b<s.heap.objs.size):(qQ X (F++T) sc s.heap.objs.size fp s H xe).Ok:=by
 have cl:∀x c,(oZ X.env sc.names []).lookup x=some c->X.env.cells.lookup x=some c:=λx c e=>(mh e).resolve_left (by simp)
 refine⟨I.ok.sG,?_,I.ok.sF,I.ok.UG,zah _,λx y c h1 h2=>I.ok.inj x y c (cl _ _ h1) (cl _ _ h2),λx hx=>?_,λ_ _ h=>?_,I.ok.hd,I.ok.frames,.inl rfl,λb hb=>⟨zaq (hfo b hb),λx c e=>(UU b hb).2.2.2.2.1 x c (cl _ _ e)⟩,I.bs,zai I.ok.PU I.sz,λb o e hb=>?_,λb hb=>?_,I.cY,I.Fy⟩
 ·show (relabel sc X.env).kind=_
  exact S.kind
 ·have PY:∃k,(relabel sc X.env).names.lookup x=some k/\(k = .cell\/k = .free):=by
   rcases hx with h|h
   ·exact⟨_,h,.inl rfl⟩
   ·exact⟨_,h,.inr rfl⟩
  obtain⟨k,hk,hkk⟩:=PY;obtain⟨k',h1,h2⟩:=kD (env:=X.env) hk
  have hf:k' = .free:=by
   rcases h2 with h2|h2
   ·rcases hkk with z|z
    ·exact absurd (by rw[h2,z]) (S.Lk _ (zba h1))
    ·rw[h2,z]
   ·exact h2.1
  rw[hf] at h1;have hm:=zba h1;refine sX (.inl ⟨hm,?_⟩)
  exact I.ok.has x (.inl (S.Ll _ hm rfl))
 ·exact absurd h (by show ¬ (false=true);decide)
 ·rcases (UU b hb).2.2.2.1 with z|z
  ·exact I.ok.jv b o e z
  ·exact absurd (zao (zam (I.ok.bs b o e).1) z) (zbc _)
 ·intro z
  rcases zap.mp (I.Dc b z) with q|q
  ·exact (UU b hb).2.1 q
  ·exact (UU b hb).2.2.1 q
theorem Ln (S:dB X F T fr sc)(I:aI X ah σ H s)
  (UU:∀b∈fp,qd X ah H b) (hfo:∀b∈fp,b<s.heap.objs.size) (hn:h4.Ns s.heap.objs.size m) (k:∀b o,s.heap.get? b=some o->h4.get? b=some o):
  aI (qQ X (F++T) sc s.heap.objs.size fp s H xe) [] (kF fr T σ) H {s with heap:=h4,toks:=tk}:=by
 have cl:∀x c,(oZ X.env sc.names []).lookup x=some c->X.env.cells.lookup x=some c:=λx c e=>(mh e).resolve_left (by simp)
 refine⟨Zr S I UU hfo,rfl,I.iR,Un.gz k,⟨m,hn,λi x v h1 h2 h3=>?_⟩,λx c e=>?_,I.cg.fresh (zah _),λx c e=>I.lB x c (cl _ _ e),λp hp=>absurd (show p∈([]:List (Addr×Obj)) from hp) (by simp),I.cg.gz k,?_⟩
 ·have hi:i<fr.length:=by
   unfold kF at h2;by_cases hi:i<fr.length
   ·exact hi
   ·rw[zat (by simpa using hi),zar] at h2
    cases q:T[i - (fr.map λj=>(σ[j]?).join).length]? with
    |none=>rw[q] at h2;cases h2
    |some y=>rw[q] at h2;cases h2
  have hF:F[i]? = some x:=by
   have h1:(F++T)[i]? = some x:=h1
   rw[zaj (by rw[<-S.len];exact hi)] at h1
   exact h1
  obtain⟨j,hj,hx⟩:=S.sM i x hF;have hv:σ[j]? = some (some v):=by
   unfold kF at h2;rw[zaj (by simpa using hi),zar,hj] at h2
   have h2:some (σ[j]?).join=some (some v):=h2
   have h2:=zas h2;cases q:σ[j]? with
   |none=>rw[q] at h2;cases h2
   |some y=>rw[q] at h2;have h2:y=some v:=h2;rw[h2]
  have ak6:x∈F:=zaR hF
  have wY:=S.Zq x ak6;have AH:X.env.kindOf x=some .cell:=S.Ll _ (zba wY) rfl
  obtain⟨m0,_,hl⟩:=I.AD;obtain⟨u,ru,lk⟩:=hl j x v hx hv (.inr (.inl AH))
  refine⟨u,ru,.inr ⟨kE (env:=X.env) wY,?_⟩⟩
  rcases lk with⟨z,_⟩|⟨_,c,hc,hic⟩
  ·rw[AH] at z;cases z
  ·obtain⟨c',Qe⟩:=sX (env:=X.env) (x:=x) (l:=sc.names) (cs:=[]) (.inl ⟨zba wY,c,hc⟩)
   have e:c'=c:=by have:=cl _ _ Qe;rw[hc] at this;exact (zas this).symm
   subst e;obtain⟨o,ho,hd⟩:=hic;exact⟨c',Qe,o,k _ _ ho,hd⟩
 ·obtain⟨v,o,ho,hd⟩:=I.cell x c (cl _ _ e)
  exact⟨v,o,k _ _ ho,hd⟩
 ·show (kF fr T σ).length=(F++T).length
  unfold kF;rw[zak,zak,zaf,zaf,S.len]
theorem AV (S:dB X F T fr sc)(hc:X.fM=true)(hi:PI X target d8 wi)
  (hg:∀C fp s H xe,PG (qQ X (F++T) sc C fp s H xe) target g) (Q6:∀C fp s H xe,DH (qQ X (F++T) sc C fp s H xe) rF ti) (he:∀C fp s H xe,PE (qQ X (F++T) sc C fp s H xe) Av te)
  (hs:∀x,foldedSetIterable d8 X.env x=pure x) {ah:List (Addr×Obj)} {s:Shared} {σ:St} {H:Hp} {Q:VK} {use:Option (Value->Sem Unit)} {QQ:Value->Shared->Prop} (I:aI X ah σ H s) (h:FY wi fr T g ti te σ H Q)
  (fL:∀(D C:Addr) (fp:List Addr) (s3 s7:Shared) (H3 H6:Hp) (xe:Value->Shared->Prop) (KJ:St),aI X ah σ H3 s3->(∀b∈fp,qd X ah H3 b)->s3.heap.objs.size=C->aI (qQ X (F++T) sc C fp s3 H3 xe) [] KJ H6 s7->Q (.ref D) H6->compPost (model X.prog X.w) X.A X.xe use QQ (.ref D) C (.ok .next) s7):
  wpAny (model X.prog X.w) X.A (comprehension (.ListComp Av [⟨target,d8,rF,0⟩] sc pos) sc X.env gx (newList []) false (eval d8 X.env) use) QQ X.xe s:=by
 refine wpAny_comprehension_free rfl hs (DG λp hp hf=>?_) S.kind S.locals ?_
 ·exact I.ok.has p.1 (.inl (S.Ll p hp hf))
 refine cG (hi ah s σ H _ I h) λv s1 h1=>cG h1 λitv s2 h2=>?_
 obtain⟨it,fp,tn,J,H2,e,I2,T2,st2,f2,hD⟩:=h2;subst e;have hfo:∀b∈fp,b<s2.heap.objs.size:=λb hb=>by
  obtain⟨o,e,_⟩:=T2.lC _ _ st2 b hb;exact zam e
 -- wW new list
 refine zaO ?_
 have hDn:H2 s2.heap.objs.size=none:=I2.cg.fresh (zah _)
 obtain⟨W,⟨m0,w0⟩,Dd⟩:=hD s2.heap.objs.size hDn
 have I3:aI X ah σ (br H2 s2.heap.objs.size (.aV [])) { s2 with heap:=s2.heap.push { cls:=.type "list",dict:=none,data:=.seq ([]:List Value).toArray} }:=
  I2.ju (t':=s2.toks) (λb u e=>zab _ e) (zah _) ⟨zcA _,[],0,.nil,zan _ rfl⟩
 generalize hs3:({ s2 with heap:=s2.heap.push { cls:=.type "list",dict:=none,data:=.seq ([]:List Value).toArray} }:Shared)=s3 at I3
 have ak8:s3.heap.objs.size=s2.heap.objs.size+1:=by rw[<-hs3];exact zbN _ _
 have neD:∀b∈fp,b≠s2.heap.objs.size:=λb hb=>zaq (hfo b hb)
 have f3:∀b∈fp,qd X ah (br H2 s2.heap.objs.size (.aV [])) b:=λb hb=>⟨by rw[aq (neD b hb)];exact (f2 b hb).1,(f2 b hb).2⟩
 have ak9:∀b∈fp,b<s3.heap.objs.size:=λb hb=>by rw[ak8];exact Nat.lt_succ_of_lt (hfo b hb)
 have st3:tn 0 s3.heap:=T2.keep _ _ _ st2 λb hb o e=>by rw[<-hs3];exact zab _ e
 generalize hDD:s2.heap.objs.size=D at *
 -- wW frame
 refine wpAny_newFunctionEnv S.Lk (by intro y hy;simp at hy) (λh4 hn4 alb=>?_) S.kind
 have old:∀b o,s3.heap.get? b=some o->h4.get? b=some o:=λb o e=>alb.extBut b o (zaq (zam e)) (zab _ e)
 generalize Q7:s3.heap.objs.size=C at *
 let R:Result->Shared->Prop:=compPost (model X.prog X.w) X.A X.xe use QQ (.ref D) C
 let xe:Value->Shared->Prop:=notedBy (model X.prog X.w) X.A (compEnvC sc (oZ X.env sc.names []) C X.env) λe s'=>R (.error e) s'
 have I4:aI (qQ X (F++T) sc C fp s3 (br H2 D (.aV [])) xe) [] (kF fr T σ) (br H2 D (.aV [])) {s3 with heap:=h4,toks:=s3.toks+([]:List (Str×Value)).length}:=by
  subst Q7;exact Ln S I3 f3 ak9 hn4 old
 have st4:tn 0 h4:=T2.keep _ _ _ st3 λb hb o e=>old b o e
 have Df:∀{H':Hp},(∀b∈fp,H' b=none)->∀b∈fp,qd (qQ X (F++T) sc C fp s3 (br H2 D (.aV [])) xe) [] H' b:=λ{H'} hn b hb=>by
  refine⟨hn b hb,?_,?_,.inl hb,λx c e=>?_,λp hp=>absurd (show p∈([]:List (Addr×Obj)) from hp) (by simp)⟩
  ·exact (I4.ok.exf b hb).1
  ·exact I4.ok.C_ b hb
  ·exact (I4.ok.exf b hb).2 x c e
 have Qc:∀s5:Shared,s5 = {s3 with heap:=h4,toks:=s3.toks+([]:List (Str×Value)).length} ->
   codeAny (model X.prog X.w) X.A (.compLoop (.ListComp Av [⟨target,d8,rF,0⟩] sc pos) 0 (.ref it) (.ref D) (compEnvC sc (oZ X.env sc.names []) C X.env)) R s5:=by
  rintro s5 rfl
  refine zf (λn s'=>∃i dP xs H',aI (qQ X (F++T) sc C fp s3 (br H2 D (.aV [])) xe) [] dP H' s'/\tn i s'.heap/\(∀b∈fp,H' b=none)/\W i n dP xs H') ?_ m0 ⟨0,_,[],_,I4,st4,λb hb=>(f3 b hb).1,w0⟩
  rintro n s6 ⟨i,KJ,xs,H6,I6,st6,fr6,w6⟩
  obtain⟨hD6,tt⟩:=Dd i n KJ xs H6 w6;rcases tt with⟨stop,qn⟩|⟨go,NN,hNN,qc⟩
  ·refine cG (T2.done (qQ X (F++T) sc C fp s3 (br H2 D (.aV [])) xe) rfl rfl rfl hc i [] s6 KJ H6 xe I6 (Df fr6) st6 stop) λr s7 b9=>?_
   obtain⟨hr,I7⟩:=b9;subst hr;exact fL D C fp s3 s7 _ H6 xe KJ I3 f3 Q7 I7 qn
  ·refine cG (T2.item (qQ X (F++T) sc C fp s3 (br H2 D (.aV [])) xe) rfl rfl rfl hc i [] s6 KJ H6 xe I6 (Df fr6) st6 go) λr s7 cZ=>?_
   obtain⟨u,hr,h7⟩:=cZ;subst hr;refine cG h7 λ_ s8 dF=>?_
   obtain⟨x,H8,I8,r8,y8,st8,fr8⟩:=dF;have I8':=I8.KI (Df fr8) (T2.lC _ _ st8)
   have afW:∀{s9:Shared} {Q8:St} {H9:Hp},aI (qQ X (F++T) sc C fp s3 (br H2 D (.aV [])) xe) ([]++sL fp s8.heap) Q8 H9 s9->aI (qQ X (F++T) sc C fp s3 (br H2 D (.aV [])) xe) [] Q8 H9 s9/\tn (i+1) s9.heap/\∀b∈fp,H9 b=none:=λ{s9 Q8 H9} I9=>by
    refine⟨I9.oQ,T2.keep _ _ _ st8 λb hb o e=>(I9.CU (b,o) (zaJ _ (zaJ _ (ko hb e)))).1,λb hb=>?_⟩
    obtain⟨o,e,d⟩:=T2.lC _ _ st8 b hb;exact (I9.CU (b,o) (zaJ _ (zaJ _ (ko hb e)))).2.1
   refine cG (hg C fp s3 _ xe _ s8 KJ H8 x u _ I8' r8 (qc x H8 y8)) λ_ s9 mj=>?_
   obtain⟨Q8,H9,I9,q9⟩:=mj;refine cG (Q6 C fp s3 _ xe _ s9 Q8 H9 _ I9 q9) λok s10 jV=>?_
   obtain⟨H10,I10,q10⟩:=jV;cases ok with
   |false =>
    rw[if_neg zag] at q10 ⊢
    obtain⟨m',hm,w'⟩:=hNN _ _ _ q10;obtain⟨b1,b2,b3⟩:=afW I10;exact⟨m',hm,i+1,Q8,xs,H10,b1,b2,b3,w'⟩
   |true =>
    rw[if_pos rfl] at q10 ⊢
    refine cG (he C fp s3 _ xe _ s10 Q8 H10 _ I10 q10) λiw s11 mq=>?_
    obtain⟨Zs,H11,I11,r11,alf,hz,q11⟩:=mq;obtain⟨m',hm,w'⟩:=hNN _ _ _ q11;refine cG (xq _ s11 Q8 H11 (.ref D) [Zs] (.ref D) [iw] (λ_ H'=>H'=br H11 D (.aV (xs++[Zs]))) I11 rfl (.cons r11 .nil) ⟨D,xs,Zs,rfl,rfl,alf,hz,rfl⟩) λ_ s12 iy=>?_
    obtain⟨_,H12,I12,_,e12⟩:=iy;subst e12;obtain⟨b1,b2,b3⟩:=afW I12;exact⟨m',hm,i+1,Q8,_,_,b1,b2,b3,w'⟩
 have st5:codeAny (model X.prog X.w) X.A (.compStart (.ListComp Av [⟨target,d8,rF,0⟩] sc pos) 0 (.ref it) (.ref D) (compEnvC sc (oZ X.env sc.names []) C X.env)) R {s3 with heap:=h4,toks:=s3.toks+([]:List (Str×Value)).length}:=
  codeAny_compStart_list (Qc _ rfl) (T2.self _ 0 _ _ _ st4 (Qc _ rfl))
 subst hs3;exact st5
theorem Q9 (S:dB X F T fr sc)(hc:X.fM=true)(hi:PI X target d8 wi)
  (hg:∀C fp s H xe,PG (qQ X (F++T) sc C fp s H xe) target g) (Q6:∀C fp s H xe,DH (qQ X (F++T) sc C fp s H xe) rF ti) (he:∀C fp s H xe,PE (qQ X (F++T) sc C fp s H xe) Av te)
  (hs:∀x,foldedSetIterable d8 X.env x=pure x:=by intro _;rfl):PE X (.ListComp Av [⟨target,d8,rF,0⟩] sc pos) (FY wi fr T g ti te):=by
 intro ah s σ H Q I h;rw[eval_ListComp];refine AV S hc hi hg Q6 he hs I h λD C fp s3 s7 H3 H6 xe KJ I3 f3 Q7 I7 qn=>?_
 obtain⟨m7,hn7,_⟩:=I7.AD;refine⟨m7,hn7,λh8 UW=>⟨.ref D,H6,?_,rfl,qn⟩⟩
 have hCn:H6 C=none:=I7.free
 have un8:Un (rT X.cY) fp (H3) H6 s3.heap h8:=by
  have u7:Un (rT X.cY) fp (H3) H6 s3.heap s7.heap:=I7.base
  have nC:∀b o,s3.heap.get? b=some o->b≠C:=λb o e=>by rw[<-Q7];exact zaq (zam e)
  refine⟨λb o e n hb hx=>(UW.2 b (nC b o e)).trans (u7.keep b o e n hb hx),λb o e n hb hx=>?_,u7.free,λb o e hx=>?_,u7.wc,u7.sE,u7.we⟩
  ·obtain⟨sl,q⟩:=u7.slot b o e n hb hx
   exact⟨sl,(UW.2 b (nC b o e)).trans q⟩
  ·obtain⟨o',q⟩:=u7.there b o e hx
   exact⟨o',(UW.2 b (nC b o e)).trans q⟩
 have ali:nI X.prog X.w H6 h8:=λb ob e=>by
  refine (I7.cg b ob e).rB (λc w' hc q=>(UW.2 c ?_).trans q) (λ_ q=>q) λ_ _ q=>q
  rintro rfl
  rcases hc with rfl|hc
  ·rw[hCn] at e;cases e
  ·rw[hCn] at hc;cases hc
 refine I3.FD (s':={s7 with heap:=h8}) (H':=H6) (ch:=fp) I7.os un8 ali I7.iR λb hb=>?_
 obtain⟨_,q1,_,q2,q3,q4⟩:=f3 b hb;exact⟨q2,q1,q3,q4⟩
noncomputable def alj:V->Option Int->Option Int->Hp->VK->Prop:=λx lo hi H Q=>∃z,x = .str z/\z.length<=sizeLine/\Q (.str (Txt.slice z lo hi)) H
theorem Zt:SlR X alj:=by
 intro ah s σ H x v vl vu lo hi sl Q I rx hs pl pu h;obtain⟨z,rfl,hz,q⟩:=h;obtain⟨t,rfl⟩:=(show ∃t,v=Value.str z t from rx)
 refine⟨"str",_,F.slot_str_getitem.lookup,typeIs_str _ _ _,?_⟩
 have key:∀(l u:Option (Int×Tok)),s.heap.IsSlice sl l u none->l.map (·.1)=lo->u.map (·.1)=hi->wpAny (model X.prog X.w) X.A (getItem (.str z t) (.ref sl)) (EP X ah σ Q) X.xe s:=by
  intro l u hsl e1 e2;subst e1 e2;exact wpAny_getItem_str_slice (st:=none) hsl rfl (post_val_or_str ⟨zai (Txt.slice_le z _ _) hz,λt' k=>⟨.str (Txt.slice z (l.map (·.1)) (u.map (·.1))),H,I.oK k,⟨t',rfl⟩,q⟩⟩)
 cases pl with
 |none=>cases pu with
  |none=>exact key none none hs rfl rfl
  |int j t'=>exact key none (some (j,t')) hs rfl rfl
 |int i ti=>cases pu with
  |none=>exact key (some (i,ti)) none hs rfl rfl
  |int j t'=>exact key (some (i,ti)) (some (j,t')) hs rfl rfl
theorem FZ:∀{ys:List Str} {us:List Value},bz (ys.map V.str) us->StrsAre us ys
 |[],_,h=>by cases h;exact .nil
 |y::ys,_,h=>by
  cases h with
  |cons r t =>
   obtain⟨k,rfl⟩:=(show ∃t,_=Value.str y t from r)
   exact .cons y k (FZ t)
noncomputable def o4 (z:Str)(n:Nat):Str:=⟨(List.replicate n z.cps).foldl (·++·) #[]⟩
noncomputable def afX:R2:=λx y H Q=>∃z n,x = .str z/\y = .int n/\0<=n/\n<1000000/\z.length * n.toNat<=1000000/\Q (.str (o4 z n.toNat)) H
theorem Lo (z:Str):o4 z 1=z:=by
 obtain⟨c⟩:=z;simp[o4]
theorem wz (h:z.length=0)(n:Nat):o4 z n=z:=by
 obtain⟨c⟩:=z;have e:c = #[]:=by simpa[Str.length] using h
 subst e;unfold o4;congr 1
 induction n with
 |zero=>rfl
 |succ n ih=>rw[zay,zbn];simpa using ih
theorem DI:jQ X (binaryOp .Mult) afX:=by
 intro ah s σ H x y v u Q I rx ry h;obtain⟨z,n,rfl,rfl,h0,h1,h2,q⟩:=h;obtain⟨t,rfl⟩:=(show ∃t,v=Value.str z t from rx)
 obtain⟨t',rfl⟩:=(show ∃t,u=Value.int n t from ry)
 have hz:z.length * n.toNat<=sizeLine:=zai h2 (by decide)
 refine P.mul_str (by
  have e1:¬ n < -(2 ^ 63:Int):=by omega
  have e2:¬ n ≥ 2 ^ 63:=by omega
  rw[decide_eq_false e1,decide_eq_false e2];rfl) (λhn _ hc=>?_) (λ_ _=>?_) ?_
 ·have afY:0<n:=by omega
  have e3:(z.length:Int) * n<=1000000:=by
   have:((z.length * n.toNat:Nat):Int)<=((1000000:Nat):Int):=Int.ofNat_le.mpr h2
   rw[Int.natCast_mul,Int.toNat_of_nonneg h0] at this;exact this
  have e4:(z.length:Int)<=(2 ^ 63 - 1) / n:=by
   rw[Int.le_ediv_iff_mul_le afY];omega
  omega
 ·unfold Builtin.Str.tooLong
  exact decide_eq_false (by omega)
 ·by_cases hn:n<1
  ·rw[if_pos hn]
   have e:n=0:=by omega
   subst e;exact⟨by decide,⟨.str _,H,I.oK _,⟨_,rfl⟩,q⟩⟩
  ·rw[if_neg hn]
   by_cases hc:(n == 1 || z.length == 0)=true
   ·rw[if_pos hc]
    have e:o4 z n.toNat=z:=by
     rcases zei _ _ ▸ hc with e|e
     ·have e:n=1:=by simpa using e
      subst e;exact Lo z
     ·exact wz (by simpa using e) _
    rw[e] at q;exact⟨.str z,H,I,⟨t,rfl⟩,q⟩
   ·rw[if_neg hc]
    refine⟨?_,⟨.str _,H,I.oK _,⟨_,rfl⟩,q⟩⟩
    have:∀(k:Nat) (a:Array Nat),((List.replicate k z.cps).foldl (·++·) a).size=a.size+k * z.cps.size:=by
     intro k;induction k with
     |zero=>intro a;simp
     |succ k ih=>intro a;rw[zay,zbn,ih,zdL,Nat.succ_mul];omega
    show ((List.replicate n.toNat z.cps).foldl (·++·) #[]).size<=sizeLine
    rw[this];have e5:z.cps.size=z.length:=rfl
    rw[e5];simp only[zal,zbe,zcP];rw[Nat.mul_comm];exact hz
noncomputable def alk (K:PySem.W.Frag):List V->Hp->VK->Prop:=λxs H Q=>∃x c u t b,xs=[x,c]/\(c = .ty u\/False)/\oR K H x t/\PySem.W.kitOne K t (.type u)=some b/\Q (.bl b) H
theorem Lp:ja X (.builtin "isinstance") (alk X.K):=by
 intro ah s σ H xs us Q I r h;obtain⟨x,c,u,t,b,rfl,hc,ty,e,q⟩:=h;rcases hc with rfl|hc
 ·obtain⟨v1,v2,rfl,r1,r2⟩:=r.two
  cases (show v2=Value.type u from r2)
  exact HW I r1 ty e λtk=>⟨.bl b,H,I.oK tk,rfl,q⟩
 ·exact hc.elim
noncomputable def alm (K:PySem.W.Frag)(neg:Bool):R2:=λx y H Q=>∃p q xs ys,x = .ref p/\y = .ref q/\i6 K H p xs/\i6 K H q ys/\xs.all fQ=true/\ys.all fQ=true /\
 Q (.bl (let r:=decide (xs.length=ys.length) && (xs.zip ys).all (λz=>qP z.1 z.2);if neg then !r else r)) H
theorem Zu (hu:X.A.units<cLine):jQ X (compareOp .Eq) (alm X.K false):=by
 intro ah s σ H x y v u Q I rx ry h;obtain⟨p,q,xs,ys,rfl,rfl,hp,hq,fx,fy,k⟩:=h;cases rx;cases ry;obtain⟨aH,r1,p1,_⟩:=I.list hp;obtain⟨dZ,r2,p2,_⟩:=I.list hq;have l1:=r1.length;have l2:=r2.length;by_cases hl:xs.length=ys.length
 ·refine SeqAt.eq_listAt (e:=λj=>((xs[j]?.bind λa=>ys[j]?.map λb=>qP a b)).getD false) p1.isList p2.isList (by simp;omega) hu (λj h1 h2=>?_) ?_
  ·have h1:j<aH.length:=by simpa using h1
   have h2:j<dZ.length:=by simpa using h2
   have g1:xs[j]? = some xs[j]:=zac (by omega)
   have g2:ys[j]? = some ys[j]:=zac (by omega)
   obtain⟨u1,e1,Zv⟩:=r1.get g1;obtain⟨u2,e2,ru2⟩:=r2.get g2;have f1:fQ xs[j]=true:=zaM.mp fx _ (zbA _)
   have f2:fQ ys[j]=true:=zaM.mp fy _ (zbA _)
   have z1:aH.toArray[j]=u1:=by
    rw[zac h1] at e1;simpa using zas e1
   have z2:dZ.toArray[j]=u2:=by
    rw[zac h2] at e2;simpa using zas e2
   rw[z1,z2,g1,g2];exact yW Zv ru2 f1 f2
  ·refine⟨.bl _,H,I,rfl,?_⟩
   have e:(List.range aH.toArray.size).all (λj=>((xs[j]?.bind λa=>ys[j]?.map λb=>qP a b)).getD false)=(decide (xs.length=ys.length) && (xs.zip ys).all (λz=>qP z.1 z.2)):=by
    rw[decide_eq_true hl,zcF,zal,<-l1,zaK,zaM,zaM];constructor
    ·intro h z hz
     obtain⟨i,hi,ez⟩:=zch.mp hz;rw[zcK] at hi
     have:=h i (zci.mpr (by omega))
     rw[zac (by omega),zac (by omega)] at this
     rw[<-ez,zdb];exact this
    ·intro h i hi
     have hi:=zci.mp hi;rw[zac (by omega),zac (by omega)]
     refine h (xs[i],ys[i]) (zch.mpr ⟨i,by rw[zcK];omega,by rw[zdb]⟩)
   rw[e];exact k
 ·refine SeqAt.eq_list_lengthsAt p1.isList p2.isList (by simp;omega) hu ⟨.bl false,H,I,rfl,?_⟩
  have e:(decide (xs.length=ys.length) && (xs.zip ys).all (λz=>qP z.1 z.2))=false:=by rw[decide_eq_false hl];rfl
  have k':Q (.bl (decide (xs.length=ys.length) && (xs.zip ys).all (λz=>qP z.1 z.2))) H:=k
  rw[e] at k';exact k'
noncomputable def rW:List Value:=[.type "ValueError",.type "Exception",.type "BaseException",.type "object"]
theorem F0:rW.contains (.type "ValueError")=true:=by decide +kernel
noncomputable def kG (C:Addr)(od:Option Addr)(t:Addr):Obj:={cls:=.ref C,dict:=od,data:=.fields #[.ref t,.none,.none,.none,.bool false,.none]}
noncomputable def EO (a C:Addr)(od:Option Addr):HO:=.ext λh=>∃t:Addr,h.get? a=some (kG C od t)
noncomputable def ED (d:Addr)(fs:List (Str×V)):HO:=.ext λh=>∃mA,h.Ns1 d mA/\(∀f,i_ (fs.lookup f) (mA f))/\PySem.Within mA (fs.map (·.1))
theorem Lq (e:h.get? a=some (kG C od t)):bY P w H h a (EO a C od):=
 ⟨⟨t,e⟩,⟨_,e⟩,λh1 h2 b9 k=>by obtain⟨t,q⟩:=b9;exact⟨t,k _ q⟩⟩
theorem Lr (e:h.Ns1 d mA)(r:∀f,i_ (fs.lookup f) (mA f))(wi:PySem.Within mA (fs.map (·.1))):bY P w H h d (ED d fs):=
 ⟨⟨mA,e,r,wi⟩,(let ⟨o,_,_,e',_⟩:=e;⟨o,e'⟩),λh1 h2 cZ k=>by obtain⟨mA,q,r,wi⟩:=cZ;exact⟨mA,q.at λo z=>k o z,r,wi⟩⟩
section
variable {prog:Program}{w:World}{A:Around}{E:Value->Shared->Prop}{h:Heap}{g:Array GenState}{d:Drawn}{t:Nat}{os:OsState}{K:PySem.W.Frag}
variable {nm q:Str}{C N:Addr}{bs bm:List Value}{wA:Bool}{sn:List Str}{sub:List Value}{ab:Bool}{sY:Option Bool}{dd:Option Addr}{k0 k1 k2 k3 k5:Option Value}
theorem rG (X:K.In h)(T:OwnTail h rW bm){cX:List Value} 
  (hC:h.get? C=some (excClassObj nm q C N bs bm wA sn sub ab sY dd k0 k1 k2 k3 k5 "ValueError.__new__"))
  (hi:PySem.W.findIn K (.ref C) "__init__"=some (some (.ref fI))) (hf:PySem.W.typeIn K (.ref fI)=some (.type "function"))
  (hq:wpAny (model prog w) A (call (.ref fI) (.ref (h.objs.size+1)::cX)) (λr s'=>r = .none/\Q (.done (.ret (.ref (h.objs.size+1)))) s') E
   ⟨(h.push { cls:=.type "tuple",data:=.seq cX.toArray}).push (kG C none h.objs.size),g,d,t,os⟩) (hrest:cX.length<=sizeLine):
  wpAny (model prog w) A (Builtin.«type.__call__» ⟨.ref C::cX,[]⟩) Q E ⟨h,g,d,t,os⟩:=by
 have F:ExcBaseFacts "ValueError" "ValueError.__new__" "ValueError.__init__" rW:=F.excBase_ValueError
 repeat (first|with_reducible refine zbK hC ?_|with_reducible refine wpAny_madeBy_exc hC ?_|wp_step)
 refine codeAny_call_builtin_code (Code.quiet_builtin _ F.quiet) (wpAny_check_new_subU F F0 T hC ?_)
 refine codeAny_exc_new_subU F F0 F T hC ?_ hrest
 show wpAny _ _ _ _ _ _
 have up:∀b o,h.get? b=some o->((h.push { cls:=.type "tuple",data:=.seq cX.toArray}).push {cls:=.ref C,data:=.fields #[.ref h.objs.size,.none,.none,.none,.bool false,.none]}).get? b=some o:=
  λb o e=>zab _ (zab _ e)
 have af0:=up _ _ hC;have af1:K.In _:=X.keeps up
 have aln:((h.push { cls:=.type "tuple",data:=.seq cX.toArray}).push
   {cls:=.ref C,data:=.fields #[.ref h.objs.size,.none,.none,.none,.bool false,.none]}).get? (h.objs.size+1)=some
   {cls:=.ref C,data:=.fields #[.ref h.objs.size,.none,.none,.none,.bool false,.none]}:=by heap_get
 have hcC:(Value.ref C::bm).contains (.ref C)=true:=by simp
 unfold isInstance;repeat (first|with_reducible refine zbK aln ?_ | (with_reducible refine zcI af0 ?_;rw[hcC])|wp_step)
 show wpAny _ _ (typeLookup (.ref C) _) _ _ _
 refine (zdh af1 hi).here ?_
 refine zaD (zaa ?_)
 unfold bindSpecial;refine zaa ((PySem.W.looks_typeIn af1 hf).here ?_)
 rw[if_pos (by decide)]
 refine zad (zaa (zaQ hq (λr s' hr=>?_) λ_ _ x=>x))
 obtain⟨rfl,hQ⟩:=hr;wp_walk
 exact hQ
theorem DJ (X:K.In h)(T:OwnTail h rW bm){cX:List Value} 
  (hC:h.get? C=some (excClassObj nm q C N bs bm wA sn sub ab sY dd k0 k1 k2 k3 k5 "ValueError.__new__"))
  (hi:PySem.W.findIn K (.ref C) "__init__"=some (some (.ref fI))) (hf:PySem.W.typeIn K (.ref fI)=some (.type "function"))
  (hq:wpAny (model prog w) (A.under (.builtin "type.__call__" ⟨.ref C::cX,[]⟩)) (call (.ref fI) (.ref (h.objs.size+1)::cX)) (λr s'=>r = .none/\Q (.ref (h.objs.size+1)) s') E
   ⟨(h.push { cls:=.type "tuple",data:=.seq cX.toArray}).push (kG C none h.objs.size),g,d,t,os⟩) (hrest:cX.length<=sizeLine):
  wpAny (model prog w) A (call (.ref C) cX) Q E ⟨h,g,d,t,os⟩:=by
 have f1:=tc_lookup;have f2:=tc_bind (.ref C)
 have hT:(⟨h,g,d,t,os⟩:Shared).TypeIs (.ref C) "type" := ⟨_,hC,rfl⟩
 refine zdi (codeAny_of_tree ?_)
 show wpAny _ _ (callAny (.ref C) _) _ _ _
 repeat (any_goals (first|assumption|with_reducible refine zbK hC ?_|wp_step))
 refine⟨rfl,?_⟩
 exact codeAny_call_builtin_at (Code.quiet_builtin _ (by decide +kernel)) entry_typeCall (wpAny_check_type_call_sub hC (rG (hrest:=hrest) X T hC hi hf hq))
end
structure rX (K:PySem.W.Frag) (C f:Addr) (bm:List Value):Prop where
 lC:∃nm q N bs sn sub ab sY dd k0 k1 k2 k3 k5,K.lookup C=some (excClassObj nm q C N bs bm true sn sub ab sY dd k0 k1 k2 k3 k5 "ValueError.__new__")
 tail:PySem.W.tailIn K rW bm=true
 init:PySem.W.findIn K (.ref C) "__init__"=some (some (.ref f))
 fn:PySem.W.typeIn K (.ref f)=some (.type "function")
 kp:PySem.W.keepIn K (.ref C)=true
 sa:PySem.W.findIn K (.ref C) "__setattr__"=some (some (.builtin "object.__setattr__"))
 ga:PySem.W.findIn K (.ref C) "__getattribute__"=some (some (.builtin "BaseException.__getattribute__"))
 gg:PySem.W.findIn K (.ref C) "__getattr__"=some none
 kc:PySem.W.findIn K (.ref C) "__class__"=some (some (.builtin "object.__class__"))
 nb:∃B,bm = .ref B::rW
theorem AW (h:H a=some o):br H a o=H:=by
 funext b
 unfold br;split
 ·rename_i e;rw[e,h]
 ·rfl
section
variable {X:Cx}{CX:CW}{k:Nat}{f C:Addr}{bm:List Value}{fd:FuncData}{ps:List Str}{sp:Sp}{m_:List V}{ds:List Value}{E:XK}{x m:Str}{p pos eX:Pos}{e o:Expr}{es:List Expr}{ta:TE}{t:TA}
noncomputable def alo (C:Addr)(sp:Sp)(m_:List V)(E:XK)(t:TA):TE:=λσ H Q=>t σ H λvs H1=>vs.length<=1000/\∀x,H1 x=none ->
 sp (.ref x::(vs++m_)) (br H1 x (EO x C none)) (λv H2=>v = .bw/\Q (.ref x) H2) E
theorem Q_ (M:rX X.K C f bm)(F:aO X.prog X.w X.K X.mg X.base CX k f fd ps sp)(hr:gP (k+1) X.A)(hb:eO X.K fd ps ds)(hd:bz m_ ds)
  (hx:gB CX X E) (I:aI X ah σ H s) (r:bz vs us) (hz:vs.length<=1000)
  (h:∀x,H x=none->sp (.ref x::(vs++m_)) (br H x (EO x C none)) (λv H2=>v = .bw/\Q (.ref x) H2) E):
  wpAny (model X.prog X.w) X.A (call (.ref C) us) (EP X ah σ Q) X.xe s:=by
 obtain⟨nm,q,N,bs,sn,sub,ab,sY,dd,k0,k1,k2,k3,k5,lk⟩:=M.lC;have KX:=I.kj;have hq:=h (s.heap.objs.size+1) (I.cg.fresh (zbk _))
 have hsz:us.length<=sizeLine:=by
  rw[<-r.length];exact zai hz (by decide)
 have e2:((s.heap.push { cls:=.type "tuple",data:=.seq us.toArray}).push (kG C none s.heap.objs.size)).get? (s.heap.objs.size+1)=some (kG C none s.heap.objs.size):=by
  have:=zan (s.heap.push { cls:=.type "tuple",data:=.seq us.toArray}) (o:=kG C none s.heap.objs.size) rfl
  rwa[zbN] at this
 have up:∀b o,s.heap.get? b=some o->((s.heap.push { cls:=.type "tuple",data:=.seq us.toArray}).push (kG C none s.heap.objs.size)).get? b=some o:=λb o e=>zab _ (zab _ e)
 have I2:aI X ah σ (br H (s.heap.objs.size+1) (EO (s.heap.objs.size+1) C none)) { s with heap:=(s.heap.push { cls:=.type "tuple",data:=.seq us.toArray}).push (kG C none s.heap.objs.size)}:=
  I.ju (t':=s.toks) up (zbk _) (Lq e2)
 have r2:bz (V.ref (s.heap.objs.size+1)::(vs++m_)) (Value.ref (s.heap.objs.size+1)::(us++ds)):=.cons rfl (r.i9 hd)
 have hl:(Value.ref (s.heap.objs.size+1)::us++ds).length=ps.length:=by
  have e:=r2.length;rw[F.len _ _ _ _ hq] at e;exact e.symm
 have fL:wpAny (model X.prog X.w) (X.A.under (.builtin "type.__call__" ⟨.ref C::us,[]⟩)) (call (.ref f) (.ref (s.heap.objs.size+1)::us)) (λr s'=>r = .none/\EP X ah σ Q (.ref (s.heap.objs.size+1)) s') X.xe
   { s with heap:=(s.heap.push { cls:=.type "tuple",data:=.seq us.toArray}).push (kG C none s.heap.objs.size)}:=by
  refine zdi (zcM (F.ku _ X.cY _ _ ⟨Value.ref (s.heap.objs.size+1)::us,[]⟩ (Value.ref (s.heap.objs.size+1)::(us++ds)) _ _ E (hr.KU C us [])
   (I2.AK.KU C us []) (hb _ (Value.ref (s.heap.objs.size+1)::us) I2.kj hl) r2 hq) λr s' K0=>?_)
  cases r with
  |error e=>exact hx ah σ _ _ e s' I2 K0
  |ok fl =>
   cases fl with
   |ret u =>
    obtain⟨v,H',I3,rv,ev,q3⟩:=I2.after K0;subst ev;exact⟨rv,⟨V.ref (s.heap.objs.size+1),H',I3,rfl,q3⟩⟩
   |next=>exact False.elim K0
   |brk=>exact False.elim K0
   |cont=>exact False.elim K0
 exact DJ (g:=s.gens) (d:=s.drawn) (t:=s.toks) (os:=s.os) KX (zeS KX M.tail) (KX _ _ lk) M.init M.fn fL hsz
theorem Zw (M:rX X.K C f bm)(F:aO X.prog X.w X.K X.mg X.base CX k f fd ps sp)(hr:gP (k+1) X.A)(hg:Gl X x)(hm:X.mg x=some (.ref C))(hb:eO X.K fd ps ds)(hd:bz m_ ds)(hx:gB CX X E)
  (ha:PA X (e::es) t) (sP:(x == ("__debug__" : Str))=false:=by decide) (he:starEach (e::es) X.env=(false,eval e X.env)::starEach es X.env:=by rfl) (hpl:(backTo pos (starEach es X.env)).any (·.1)=false:=by rfl):
  PE X (.Call (.Name x p) (e::es) [] pos) (alo C sp m_ E t):=by
 intro ah s σ H Q I h;refine zcu (mZ I hg hm ?_ sP)
 refine zcN (h₀:= X.base) I.ok.sG.Yn M.kp (cG (ha pos ah s σ H _ I h) λus s1 ⟨vs,H1,I1,r,hz,q⟩=>⟨I1.kj,?_⟩) he hpl
 exact Q_ M F hr hb hd hx I1 r hz q
structure UX (K:PySem.W.Frag) (B:Addr):Prop where
 sp:PySem.W.specialIn K (.ref B) "__getattribute__"=some (some (.builtin "type.__getattribute__"))
 rd:PySem.W.readsIn K B (.type "type")=true
 fc:PySem.W.findCls K (.ref B) (.type "type") "__init__"=some (.val (.builtin "ValueError.__init__"))
noncomputable def Zx (K:PySem.W.Frag)(t:TA):TE:=λσ H Q=>t σ H λvs H1=>∃a C f bm od y,vs=[.ref a,y]/\H1 a=some (EO a C od)/\rX K C f bm/\Q .bw H1
theorem Ls (M:rX X.K C f bm)(I:aI X ah σ H s)(hH:H a=some (EO a C od))(q:Q .bw H):
  wpAny (model X.prog X.w) X.A (call (.builtin "ValueError.__init__") [.ref a,u]) (EP X ah σ Q) X.xe s:=by
 obtain⟨nm,q',N,bs,sn,sub,ab,sY,dd,k0,k1,k2,k3,k5,lk⟩:=M.lC;have KX:=I.kj;have F:ExcBaseFacts "ValueError" "ValueError.__new__" "ValueError.__init__" rW:=F.excBase_ValueError
 obtain⟨⟨t0,ha⟩,_,_⟩:=(show bY X.prog X.w H s.heap a (EO a C od) from I.cg a _ hH)
 have hC:=KX _ _ lk;have T:=zeS KX M.tail;obtain⟨h,g,d,tk,os⟩:=s;refine zdi (codeAny_call_builtin F.init.plain F.initEntry (wpAny_check_init_subU F T hC ha rfl ?_))
 have Ra:h.get? a=some {cls:=.ref C,dict:=od,data:=.fields #[.ref t0,.none,.none,.none,.bool false,.none]}:=ha
 wp_walk
 have up:∀b o,h.get? b=some o->(h.push { cls:=.type "tuple",data:=.seq #[u]}).get? b=some o:=λb o e=>zab _ e
 have I1:aI X ah σ H ⟨h.push { cls:=.type "tuple",data:=.seq #[u]},g,d,tk,os⟩:=I.gz (t':=tk) up
 have e1:((h.push { cls:=.type "tuple",data:=.seq #[u]}).update a (Obj.mapFields λx=>x.setIfInBounds 0 (Value.ref h.objs.size))).get? a=some (kG C od h.objs.size):=by
  rw[zaU _ (up _ _ Ra) rfl];rfl
 have I2:=I1.jy (x:=a) (e:=a) (o:=EO a C od) (t':=tk) (h':=(h.push { cls:=.type "tuple",data:=.seq #[u]}).update a (Obj.mapFields λx=>x.setIfInBounds 0 (Value.ref h.objs.size)))
  (by rw[hH];exact True.intro) (.inl rfl) (λb z hb e=>(zaz _ _ (zbj hb)).trans e) ⟨_,e1⟩ (Lq e1)
 rw[AW hH] at I2;exact⟨.bw,H,I2,rfl,q⟩
theorem Lu (EB:UX X.K B)(hg:Gl X x)(hm:X.mg x=some (.ref B))(ha:PA X [e,e2] t)(sP:(x == ("__debug__" : Str))=false:=by decide)
  (qa:starEach [e,e2] X.env=(false,eval e X.env)::starEach [e2] X.env:=by rfl) (hpl:(backTo pos (starEach [e2] X.env)).any (·.1)=false:=by rfl)
  (ht:eval (.Call (.Attribute (.Name x p) "__init__" eX) [e,e2] [] pos) X.env=(do
   let ov <-eval (.Name x p) X.env
   standAt eX.atName
   let (f,first) <-holding [ov] (getMethod ov "__init__" pl)
   callWith pos f first (backTo pos (starEach [e,e2] X.env)) (backToKw pos (keywordEach [] X.env))):=by rfl):
  PE X (.Call (.Attribute (.Name x p) "__init__" eX) [e,e2] [] pos) (Zx X.K t):=by
 intro ah s σ H Q I h;refine zdd (pl:=pl) (mZ I hg hm ?_ sP) ht
 refine PySem.W.method_cls I.kj EB.sp (PySem.W.cls_value I.kj EB.rd EB.fc rfl ?_)
 have I1:=I.oK (s.toks+1)
 have hA:=ha pos ah {s with toks:=s.toks+1} σ H _ I1 h
 rw[qa] at hA ⊢
 refine zcB (by show (false || (backTo pos (starEach [e2] X.env)).any (·.1))=false;rw[hpl]<;>rfl) (zdj ?_)
 refine cG hA λus s2 cZ=>?_
 obtain⟨vs,H2,I2,r2,a,C',f',Ka,od,y,ev,hH,M,q⟩:=cZ;subst ev;obtain⟨u1,u2,rfl,Zv,_⟩:=r2.two;cases (show u1=Value.ref a from Zv)
 exact Ls M I2 hH q
end
theorem Zy (e:h.get? a=some (kG C none t)):PySem.W.InstAt h a (kG C none t) C none:=⟨e,rfl,rfl,True.intro⟩
theorem Zz (e:h.get? a=some (kG C (some d) t))(hd:h.get? d=some o):PySem.W.InstAt h a (kG C (some d) t) C (some o):=⟨e,rfl,rfl,hd⟩
theorem DK (self:Value):refuseLoop self "__setattr__" rW=pure ():=by
 with_unfolding_all rfl
theorem rX.cls {K:PySem.W.Frag}(M:rX K C f bm):∃cd,PySem.W.clsIn K C=some cd/\cd.mro = .ref C::bm/\cd.hasDict=true:=by
 obtain⟨nm,q',N,bs,sn,sub,ab,sY,dd,k0,k1,k2,k3,k5,lk⟩:=M.lC;refine⟨{name:=nm,bases:=bs,mro:=.ref C::bm,ns:=N,qualname:=q',hasDict:=true,slotNames:=sn,subclasses:=sub,abstract:=ab,collection:=sY,hasDel:=false},?_,rfl,rfl⟩
 unfold PySem.W.clsIn;rw[lk]
section
variable {prog:Program}{w:World}{A:Around}{E:Value->Shared->Prop}{s:Shared}{K:PySem.W.Frag}{x C f:Addr}{bm:List Value}{ox:Obj}{od:Option Obj}{name:Str}
theorem rX.has {T:String}(M:rX K C f bm)(hT:rW.contains (.type T)=true):PySem.W.mroIn K C (.type T)=some true:=by
 obtain⟨cd,hc,hm,_⟩:=M.cls;obtain⟨B,rfl⟩:=M.nb;unfold PySem.W.mroIn;rw[hc,zcm,hm,if_neg (by simp)]
 rw[zbC,zbC,hT,zcQ,zcQ]
theorem xw {v:Value}{b:Bool->Prop}{Q:Unit->Shared->Prop}(X:K.In s.heap)(I:PySem.W.InstAt s.heap x ox C od)(M:rX K C f bm)(hn:PySem.W.findIn K (.ref C) name=some none)
  (h:∀on tk,wpAny (model prog w) A.in1 (Builtin.ObjectAttr.storeInOwnDict (.ref x) (.ref C) (.str name tk) name v on) (λfL s'=>match fL with|.done (.ret _)=>Q () s' | _=>False) E {s with toks:=s.toks+1}):
  wpAny (model prog w) A (setAttr (.ref x) name v) Q E s:=by
 refine zfb X I M.sa ?_
 have SF:=PySem.F.store_object;obtain⟨cd,hc,hm,_⟩:=M.cls;obtain⟨B,hB⟩:=M.nb;have L0:=I.type (M:=model prog w)
 refine codeAny_call_builtin SF.slot.plain SF.entry (@PySem.W.check_slot (model prog w) _ _ {s with toks:=s.toks+1} "object.__setattr__" "object" "__setattr__" (.ref x) [.str name s.toks,v] [] _ SF.kind SF.split
  (L0.andThen (PySem.W.looks_mroIn X (M.has (by decide +kernel)))) (SF.args (.ref x) (.str name s.toks) v) ?_)
 have Lm:PySem.W.Looks (model prog w) s.heap (mroOf (.ref C)) cd.mro:=(zcH X hc).andThen .now
 rw[PySem.W.osa_eq,refuse_eq];refine zaa (zaa (zbB (s:={s with toks:=s.toks+1}) L0 (zaa (zbB (s:={s with toks:=s.toks+1}) Lm ?_))))
 rw[hm,hB,refuseLoop_ref,refuseLoop_ref,DK];refine zad (zaa (zbB (s:={s with toks:=s.toks+1}) L0 (zaa (zbB (s:={s with toks:=s.toks+1}) (zdh X hn) ?_))))
 refine zaa (zad ?_)
 refine zaQ (h _ _) (λfL s' z=>?_) λ_ _ z=>z
 rcases fL with (_|_|_|_)|_<;>first|exact z|exact z.elim
end
section
variable {X:Cx}{ah:List (Addr×Obj)}{σ:St}{H:Hp}{s:Shared}{A:Around}{E:Value->Shared->Prop}{a C f d:Addr}{bm:List Value}{g:Str}{v y:V}{u:Value}{fs:List (Str×V)}
theorem Lv {od:Option Addr}(I:aI X ah σ H s)(h:H a=some (EO a C od)):∃t,s.heap.get? a=some (kG C od t):=by
 obtain⟨⟨t,e⟩,_,_⟩:=(show bY X.prog X.w H s.heap a (EO a C od) from I.cg a _ h)
 exact⟨t,e⟩
theorem af2 (I:aI X ah σ H s)(h:H d=some (ED d fs)):∃mA,s.heap.Ns1 d mA/\(∀f,i_ (fs.lookup f) (mA f))/\PySem.Within mA (fs.map (·.1)):=by
 obtain⟨q,_,_⟩:=(show bY X.prog X.w H s.heap d (ED d fs) from I.cg d _ h)
 exact q
end
theorem Lw (h:a≠b):br (br (br H a o) b u) a w=br (br (br H a o) a w) b u:=by
 funext c
 unfold br;by_cases h1:c=a
 ·subst h1;rw[if_pos rfl,if_neg h,if_pos rfl]
 ·rw[if_neg h1,if_neg h1,if_neg h1]
theorem Lx (I:aI X ah σ H s)(M:rX X.K C f bm)(ha:H a=some (EO a C none))(hn:PySem.W.findIn X.K (.ref C) g=some none)(ry:bG y u)
  (h:∀d s',H d=none->aI X ah σ (br (br H d (ED d [(g,y)])) a (EO a C (some d))) s'->Q () s'):wpAny (model X.prog X.w) A (setAttr (.ref a) g u) Q E s:=by
 obtain⟨t,e⟩:=Lv I ha;obtain⟨cd,hc,_,wA⟩:=M.cls;refine xw (b:=λ_=>True) I.kj (Zy e) M hn λon tk=>?_
 have ZA:H s.heap.objs.size=none:=I.cg.fresh (zah _)
 have e':s.heap.get? a=some ⟨.ref C,none,.fields #[.ref t,.none,.none,.none,.bool false,.none],#[]⟩:=e
 refine zaa (zad (zaa (zaa (zeu e' (zaa (zbB (s:={s with toks:=s.toks+1}) (zcH I.kj hc) ?_))))))
 rw[wA];refine zaa (wpAny_alloc ?_)
 have hal:a<s.heap.objs.size:=zam e
 have nad:a≠s.heap.objs.size:=zaq hal
 have g1:(s.heap.push ({ cls:=.type "dict",data:=.dict #[]}:Obj)).get? s.heap.objs.size=some { cls:=.type "dict",data:=.dict #[]}:=zan _ rfl
 have n1:(s.heap.push ({ cls:=.type "dict",data:=.dict #[]}:Obj)).Ns s.heap.objs.size (λ_=>none):=⟨_,#[],_,g1,rfl,(λe he=>absurd he (by simp)),λ_=>rfl⟩
 have n1':=Heap.Ns1.of_empty n1;have I1:aI X ah σ (br H s.heap.objs.size (ED s.heap.objs.size [])) { s with heap:=s.heap.push ({ cls:=.type "dict",data:=.dict #[]}:Obj),toks:=s.toks+1}:=
  I.ju (λb u e=>zab _ e) (zah _) (Lr n1' (λ_=>True.intro) (λy hy=>absurd rfl hy))
 have e1:(s.heap.push ({ cls:=.type "dict",data:=.dict #[]}:Obj)).get? a=some ⟨.ref C,none,.fields #[.ref t,.none,.none,.none,.bool false,.none],#[]⟩:=zab _ e'
 refine zaa (wpAny_update e1 ?_)
 have e2:((s.heap.push ({ cls:=.type "dict",data:=.dict #[]}:Obj)).update a (λo=>{cls:=o.cls,dict:=some s.heap.objs.size,data:=o.data,slots:=o.slots})).get? a=some (kG C (some s.heap.objs.size) t):=by
  rw[zaU _ e1 rfl];rfl
 have hH1:(br H s.heap.objs.size (ED s.heap.objs.size [])) a=some (EO a C none):=by rw[aq nad];exact ha
 have I2:=I1.jy (x:=a) (e:=a) (o:=EO a C (some s.heap.objs.size)) (t':=s.toks+1) (h':=(s.heap.push ({ cls:=.type "dict",data:=.dict #[]}:Obj)).update a (λo=>{cls:=o.cls,dict:=some s.heap.objs.size,data:=o.data,slots:=o.slots}))
  (by rw[hH1];exact True.intro) (.inl rfl) (λb z hb q=>(zaz _ _ (zbj hb)).trans q) ⟨_,e2⟩ (Lq e2)
 have n2:((s.heap.push ({ cls:=.type "dict",data:=.dict #[]}:Obj)).update a (λo=>{cls:=o.cls,dict:=some s.heap.objs.size,data:=o.data,slots:=o.slots})).Ns1 s.heap.objs.size (λ_=>none):=
  n1'.at λo z=>(zaz _ _ nad).trans z
 refine zad ?_
 refine zaa (zad (zaa ?_))
 refine wpAny_nsSet1 n2 λh' PZ J6=>?_
 obtain⟨oD,esD,epD,hoD,YZ,hcD⟩:=PZ.count (PySem.Within.cons g u (ns:=[]) (λy hy=>absurd rfl hy))
 refine zaa (zdT hoD (by rw[YZ];exact zdU (zai hcD (show 1<=sizeLine+1 by decide))) ?_)
 refine zad (h s.heap.objs.size _ ZA ?_)
 have hHd:(br (br H s.heap.objs.size (ED s.heap.objs.size [])) a (EO a C (some s.heap.objs.size))) s.heap.objs.size=some (ED s.heap.objs.size []):=by rw[aq (zbj nad),av]
 have I3:=I2.jy (x:=s.heap.objs.size) (e:=s.heap.objs.size) (o:=ED s.heap.objs.size [(g,y)]) (t':=s.toks+1+1) (h':=h')
  (by rw[hHd];exact True.intro) (.inl rfl) (λb z hb q=>(J6.2 b hb).trans q) ⟨_,hoD⟩ (Lr PZ (λf=>?_) (λf hf=>?_))
 ·rw[Lw (zbj nad),Fx] at I3
  exact I3
 ·show i_ (List.lookup f [(g,y)]) (if f=g then some u else none)
  rw[zaT];by_cases q:f=g
  ·rw[if_pos q,show (f == g)=true from by simpa using q]
   exact ry
  ·rw[if_neg q,show (f == g)=false from by simpa using q]
   exact True.intro
 ·have hf:(if f=g then some u else none)≠none:=hf
  by_cases q:f=g
  ·rw[q];simp
  ·rw[if_neg q] at hf;exact absurd rfl hf
theorem Lz (I:aI X ah σ H s)(M:rX X.K C f bm)(ha:H a=some (EO a C (some d)))(hd:H d=some (ED d fs))(hl:fs.length<1000)(hn:PySem.W.findIn X.K (.ref C) g=some none)(ry:bG y u)
  (h:∀s',aI X ah σ (br H d (ED d (gA g y fs))) s'->Q () s'):wpAny (model X.prog X.w) A (setAttr (.ref a) g u) Q E s:=by
 obtain⟨t,e⟩:=Lv I ha;obtain⟨mA,ns,r,wi⟩:=af2 I hd;obtain⟨oD,hoD,_⟩:=w9 ns;obtain⟨cd,hc,_,wA⟩:=M.cls;refine xw (b:=λ_=>True) I.kj (Zz e hoD) M hn λon tk=>?_
 have e':s.heap.get? a=some ⟨.ref C,some d,.fields #[.ref t,.none,.none,.none,.bool false,.none],#[]⟩:=e
 refine zaa (zad (zaa (zaa (zeu e' (zaa (zbB (s:={s with toks:=s.toks+1}) (zcH I.kj hc) ?_))))))
 rw[wA];refine zad (a:=some d) (zaa (zad (zaa ?_)))
 refine wpAny_nsSet1 (s:={s with toks:=s.toks+1}) ns λh' PZ J6=>?_
 obtain⟨oD',esD,epD,af3,YZ,hcD⟩:=PZ.count (PySem.Within.cons g u wi)
 have aoe:(1000:Nat)<=sizeLine:=by decide
 have hz:(fs.map (·.1)).length<1000:=by rw[zaf];exact hl
 refine zaa (zdT af3 (by rw[YZ];exact zdU (zai hcD (by rw[zav];omega))) ?_)
 refine zad (h _ ?_)
 refine I.jy (x:=d) (e:=d) (o:=ED d (gA g y fs)) (by rw[hd];exact True.intro) (.inl rfl) (λb z hb q=>(J6.2 b hb).trans q) ⟨_,af3⟩ (Lr PZ (λf=>?_) (λf hf=>?_))
 ·show i_ ((gA g y fs).lookup f) (if f=g then some u else mA f)
  rw[lY];by_cases q:f=g
  ·rw[if_pos q,if_pos q];exact ry
  ·rw[if_neg q,if_neg q];exact r f
 ·by_cases q:f=g
  ·rw[q];exact (jT g y fs).1
  ·refine (jT g y fs).2 f (wi f λz=>hf ?_)
   show (if f=g then some u else mA f)=none
   rw[if_neg q];exact z
noncomputable def af4 (K:PySem.W.Frag)(ta tv:TE)(g:Str):TS:=λD σ H=>tv σ H λy H1=>ta σ H1 λx H2=>∃a C f bm,x = .ref a/\H2 a=some (EO a C none)/\rX K C f bm/\PySem.W.findIn K (.ref C) g=some none /\
 ∀d,H2 d=none->D.nx σ (br (br H2 d (ED d [(g,y)])) a (EO a C (some d)))
noncomputable def af5 (K:PySem.W.Frag)(ta tv:TE)(g:Str):TS:=λD σ H=>tv σ H λy H1=>ta σ H1 λx H2=>∃a C f bm d fs,x = .ref a/\H2 a=some (EO a C (some d))/\H2 d=some (ED d fs)/\fs.length<1000/\rX K C f bm/\PySem.W.findIn K (.ref C) g=some none /\
 D.nx σ (br H2 d (ED d (gA g y fs)))
theorem Rb (ha:PE X o ta)(hv:PE X value tv)(hs:swapsWith value (some (.Attribute o g jS)) pos.line X.env=pure false:=by rfl):PS X (.Assign [.Attribute o g jS] value pos) (af4 X.K ta tv g):=by
 intro ah s σ H D I h;refine zcq (cG (hv ah s σ H _ I h) λu s1 ⟨y,H1,I1,ry,q⟩=>cG (ha ah s1 σ H1 _ I1 q) λov s2 dF=>?_) hs
 obtain⟨x,H2,I2,rx,a,C,f,bm,ex,ea,M,n,q2⟩:=dF;subst ex;obtain rfl:ov=Value.ref a:=rx
 exact Lx I2 M ea n ry λd s3 hd I3=>⟨σ,_,I3,q2 d hd⟩
theorem Rc (ha:PE X o ta)(hv:PE X value tv)(hs:swapsWith value (some (.Attribute o g jS)) pos.line X.env=pure false:=by rfl):PS X (.Assign [.Attribute o g jS] value pos) (af5 X.K ta tv g):=by
 intro ah s σ H D I h;refine zcq (cG (hv ah s σ H _ I h) λu s1 ⟨y,H1,I1,ry,q⟩=>cG (ha ah s1 σ H1 _ I1 q) λov s2 jV=>?_) hs
 obtain⟨x,H2,I2,rx,a,C,f,bm,d,fs,ex,ea,ed,hl,M,n,q2⟩:=jV;subst ex;obtain rfl:ov=Value.ref a:=rx
 exact Lz I2 M ea ed hl n ry λs3 I3=>⟨σ,_,I3,q2⟩
section
variable {K:PySem.W.Frag}{C f B:Addr}
end
theorem aI.zg {fp:List Addr}(I:aI X ah σ H s)(k:∀b o,b∉fp->s.heap.get? b=some o->h'.get? b=some o)
  (hf:∀b∈fp,qd X ah H b):aI X ah σ H {s with heap:=h',toks:=t' }:=by
 refine I.qc (g':=s.gens) (d':=s.drawn) (ch:=fp) (λb hb=>?_) (λb o _ _ hc e _=>k b o hc e) (λb o _ _ hc e _=>⟨o.slots,k b o hc e⟩) (λ_ _ _ _ n=>n)
  (λb o hc e=>⟨o,k b o hc e⟩) (λ_ _ e=>e) (λ_ _ _ e=>e) (λb ps e=>⟨#[],by rw[e];simp⟩) (λm hm=>?_) (λb u e=>?_) I.iR
 ·obtain⟨f0,f1,f2,f3,f4,f5⟩:=hf b hb
  exact⟨f3,f1,f4,f5⟩
 ·obtain⟨o,es,ep,ho,r⟩:=hm
  exact⟨o,es,ep,k _ o (λz=>(hf _ z).2.1 rfl) ho,r⟩
 ·refine (I.cg b u e).rB (λc v hc q=>k c v (λz=>?_) q) (λ_ q=>q) λ_ _ q=>q
  have f0:=(hf c z).1
  rcases hc with z' | z'
  ·rw[z',e] at f0;cases f0
  ·rw[z'] at f0;cases f0
noncomputable def AX (K:PySem.W.Frag)(κ:Bool)(H:Hp)(a:Addr)(xs:List V):Prop:=match κ with|true=>oM K H a xs|false=>i6 K H a xs
noncomputable def mw (κ:Bool)(h:Heap)(it a:Addr)(i:Nat):Prop:=match κ with|true=>h.IsTupleIter it a i|false=>h.IsListIter it a i
noncomputable def o5 (κ:Bool)(h:Heap)(a:Addr)(aH:Array Value):Prop:=match κ with|true=>h.IsTuple a aH|false=>h.IsList a aH
theorem mw.lC (st:mw κ h it a i):∃o,h.get? it=some o/\∀v,o.data ≠ .cell v:=by
 cases κ with
 |true=>obtain⟨o,e,c,d⟩:=st;exact⟨o,e,λv z=>by rw[d] at z;cases z⟩
 |false=>obtain⟨o,e,c,d⟩:=st;exact⟨o,e,λv z=>by rw[d] at z;cases z⟩
theorem mw.sM (st:mw κ h it a i)(k:∀o,h.get? it=some o->h'.get? it=some o):mw κ h' it a i:=by
 cases κ with
 |true=>obtain⟨o,e,r⟩:=st;exact⟨o,k o e,r⟩
 |false=>obtain⟨o,e,r⟩:=st;exact⟨o,k o e,r⟩
theorem o5.sM (st:o5 κ h a aH)(k:∀o,h.get? a=some o->h'.get? a=some o):o5 κ h' a aH:=by
 cases κ with
 |true=>obtain⟨o,e,r⟩:=st;exact⟨o,k o e,r⟩
 |false=>obtain⟨o,e,r⟩:=st;exact⟨o,k o e,r⟩
theorem DL (hj:s.heap.IsTupleIter j tp n)(hp:s.heap.IsTuple tp vs)(hv:vs[n]? = some v)
  (k:∀h',h'.IsTupleIter j tp (n+1)->Heap.SameBut j s.heap h'->Q v {s with heap:=h' }):wpAny (model prog w) A (Builtin.SmallTypes.nextOf (.ref j)) Q E s:=by
 obtain⟨oj,ej,cj,dj⟩:=id hj;obtain⟨op,ep,_,m,dp⟩:=hp;have hn:¬ ((Value.ref tp == Value.none)=true):=zag
 unfold Builtin.SmallTypes.nextOf;refine zaa (zaN (name:=Str.ofString "__next__") hj.typeIs zcd (zaY zcd hj.typeIs zdE ?_ (zdw _)))
 show wpAny _ _ (field (.ref j) 0 >>= _) _ _ s
 refine zaa (zax ej dj (x:=.ref tp) rfl ?_)
 show wpAny _ _ (if (Value.ref tp == Value.none)=true then _ else _) _ _ s
 rw[if_neg hn];show wpAny _ _ (field (.ref j) 1 >>= _) _ _ s
 refine zaa (zax ej dj (x:=.int n 0) rfl ?_)
 show wpAny _ _ (seqItems? (.ref tp) >>= _) _ _ s
 refine zaa (zbl ep dp ?_)
 simp only[zbm,hv];refine zaa (zbO ej dj (by simp) (zad ⟨v,rfl,zad (k _ ⟨_,zaU _ ej (zcD (zbq dj _)),(Obj.cls_mapFields ..).trans cj,?_⟩ (zco ..))⟩))
 rw[zbq dj];simp[rawInt]
theorem Io (hh:A.handled=none)(hj:s.heap.IsTupleIter j tp n)(hp:s.heap.IsTuple tp vs)(hv:vs[n]? = none)
  (k:∀h' x,Heap.ExtBut j s.heap h'->(∃o,h'.get? x=some o/\o.cls = .type "StopIteration")->E (.ref x) {s with heap:=h' }):wpAny (model prog w) A (Builtin.SmallTypes.nextOf (.ref j)) Q E s:=by
 obtain⟨oj,ej,cj,dj⟩:=id hj;obtain⟨op,ep,_,m,dp⟩:=hp;have hn:¬ ((Value.ref tp == Value.none)=true):=zag
 unfold Builtin.SmallTypes.nextOf;refine zaa (zaN (name:=Str.ofString "__next__") hj.typeIs zcd (zaY zcd hj.typeIs zdE ?_ (zdw _)))
 show wpAny _ _ (field (.ref j) 0 >>= _) _ _ s
 refine zaa (zax ej dj (x:=.ref tp) rfl ?_)
 show wpAny _ _ (if (Value.ref tp == Value.none)=true then _ else _) _ _ s
 rw[if_neg hn];show wpAny _ _ (field (.ref j) 1 >>= _) _ _ s
 refine zaa (zax ej dj (x:=.int n 0) rfl ?_)
 show wpAny _ _ (seqItems? (.ref tp) >>= _) _ _ s
 refine zaa (zbl ep dp ?_)
 simp only[zbm,hv];refine zaa (zcU (zaa (zbO ej dj (by simp) ?_)))
 show wpAny _ _ (newExc (.type "StopIteration") [] >>= _) _ _ _
 refine zaa ?_
 simp only[newExc,newTuple];refine zaa (zaO ?_ (by size_fits))
 refine zaa (m:=firstArgMember _ _) (wpAny_of_eq (a:=Value.none) (by first|rfl | (simp only[firstArgMember];rfl)) (zaO ?_ (by size_fits)))
 simp only[raiseNew];refine zaa (wpAny_handled ?_)
 first|rw[show A.in1.handled=none from hh]|rw[hh]
 exact zaa (zad (wpAny_throw (k _ _ (((zco ..).extBut.push _).push _) ⟨_,zan _ rfl,rfl⟩)))
theorem jW (hh:A.handled=none)(κ:Bool)(it a:Addr)(qj:a≠it)(aH:Array Value):
    Draws P w A it [it,a] aH.size (λi v=>aH[i]? = some v) (λi h=>mw κ h it a i/\o5 κ h a aH):=by
  cases κ with
  |false=>exact Draws.list hh it a qj aH
  |true =>
    exact { live:=λi h st=>let ⟨o,e,_⟩:=st.1;⟨o,e⟩
            frame:=λi h h' st k=>⟨st.1.sM λo e=>k it (by simp) o e,st.2.sM λo e=>k a (by simp) o e⟩
            item:=λi s Q E hi st k=>DL st.1 st.2 (v:=aH[i]) (by simp[hi]) λh' KG sb=>k _ h' s.toks (by simp[hi]) ⟨KG,Heap.IsTuple.extBut st.2 sb.extBut qj⟩ sb
            done:=λs Q E st k=>Io hh st.1 st.2 (by simp) k}
theorem aI.ZC (I:aI X ah σ H s)(h:AX X.K κ H a xs):∃aH:List Value,bz xs aH/\o5 κ s.heap a aH.toArray/\xs.length<=sizeLine:=by
 cases κ with
 |true =>
  obtain⟨aH,r,p,z⟩:=I.fD h;exact⟨aH,r,p,z⟩
 |false =>
  obtain⟨aH,r,p,z⟩:=I.list h;exact⟨aH,r,p.isList,z⟩
theorem aI.F1 (I:aI X ah σ H s)(h:AX X.K κ H a xs)(h':AX X.K κ H a ys):xs=ys:=by
 cases κ with
 |true=>exact I.HL h h'
 |false=>exact I.AI h h'
theorem aI.ZD {fp:List Addr}(I:aI X ah σ H s)(hf:∀b∈fp,qd X ah H b)(rx:bG x u)(ry:bG y v)
  (lt:∀b∈fp,b<s.heap.objs.size) (hT:h'.get? s.heap.objs.size=some { cls:=.type "tuple",data:=.seq #[u,v]}) (k:∀b o,b∉fp->s.heap.get? b=some o->h'.get? b=some o):
  aI X ah σ (br H s.heap.objs.size (.gp [x,y])) {s with heap:=h',toks:=t' }/\∀b∈fp,br H s.heap.objs.size (.gp [x,y]) b=none:=by
 have ne:∀b∈fp,b≠s.heap.objs.size:=λb hb=>zaq (lt b hb)
 have fr:∀b∈fp,br H s.heap.objs.size (.gp [x,y]) b=none:=λb hb=>by rw[aq (ne b hb)];exact (hf b hb).1
 have I1:=I.ju (h':=s.heap.push { cls:=.type "tuple",data:=.seq #[u,v]}) (t':=t') (a:=s.heap.objs.size) (o:=.gp [x,y]) (λb o e=>zab _ e) (zah _)
  (show bY X.prog X.w _ _ _ (.gp [x,y]) from ⟨(by show 2<=sizeLine;decide),[u,v],.cons rx (.cons ry .nil),IsTup.new _ _⟩)
 refine⟨aI.zg (s:={ s with heap:=s.heap.push { cls:=.type "tuple",data:=.seq #[u,v]},toks:=t' }) (t':=t') (fp:=fp) I1 (λb o hb e=>?_) λb hb=>⟨fr b hb,(hf b hb).2⟩,fr⟩
 have e:(s.heap.push { cls:=.type "tuple",data:=.seq #[u,v]}).get? b=some o:=e
 by_cases z:b=s.heap.objs.size
 ·subst z
  rw[zan _ rfl] at e;cases e;exact hT
 ·rw[Heap.get?_push_ne _ _ _ z] at e
  exact k b o hb e
noncomputable def alp (tv:TE):TE:=λσ H Q=>tv σ H λv H1=>(∃x,v = .str x/\x.length<=sizeLine/\Q (.str x) H1)\/(∃i:Int,v = .int i/\i.natAbs.log2<1920/\Q (.str (toString i)) H1)
theorem ZE (h:PE X value tv):PE X (.FormattedValue value (-1) none pos) (alp tv):=by
 intro ah s σ H Q I hq;refine FormattedValue_plain (cG (h ah s σ H _ I hq) λv s1 b9=>?_)
 obtain⟨y,H1,I1,r,q⟩:=b9;rcases q with⟨x,rfl,hz,q⟩|⟨i,rfl,hd,q⟩
 ·obtain⟨t,rfl⟩:=r
  exact formatField_str (λt' tk=>⟨.str x,H1,I1.oK tk,⟨_,rfl⟩,q⟩) hz
 ·obtain⟨t,rfl⟩:=r
  exact formatField_int_small hd ⟨.str (toString i),H1,I1.oK _,⟨_,rfl⟩,q⟩
noncomputable abbrev TJ:=Str->TE
noncomputable def PJ (X:Cx)(es:List Expr)(t:TJ):Prop:=
 ∀(bO:Str) (ah:List (Addr×Obj)) (s:Shared) (σ:St) (H:Hp) (Q:VK),aI X ah σ H s->t bO σ H Q->wpAny (model X.prog X.w) X.A (joinParts bO (evalEach es X.env)) (EP X ah σ Q) X.xe s
noncomputable def af6:TJ:=λbO _ H Q=>bO.length<=sizeLine/\Q (.str bO) H
noncomputable def ZF (te:TE)(tr:TJ):TJ:=λbO σ H Q=>te σ H λv H1=>∃y,v = .str y/\(bO++y).length<=sizeLine/\tr (bO++y) σ H1 Q
theorem ZG:PJ X [] af6:=λbO ah s σ H Q I h=>joinParts_nil ⟨.str bO,H,I.oK _,⟨_,rfl⟩,h.2⟩ h.1
theorem Rf (he:PE X e te)(hr:PJ X es tr):PJ X (e::es) (ZF te tr):=by
 intro bO ah s σ H Q I h;show wpAny _ _ (joinParts bO (eval e X.env::evalEach es X.env)) _ _ _
 refine joinParts_cons (cG (he ah s σ H _ I h) λv s1 cZ=>?_)
 obtain⟨z,H1,I1,r,y,ez,hz,q⟩:=cZ;subst ez;obtain⟨t,rfl⟩:=r;exact⟨hz,hr _ ah s1 σ H1 Q I1 q⟩
theorem Rg (h:PJ X (e1::e2::es) t):PE X (.JoinedStr (e1::e2::es) pos) (t Str.empty):=λah s σ H Q I hq=>JoinedStr_many (h Str.empty ah s σ H Q I hq)
structure sZ (Z TI TO i1 i2:Addr) (Aw C0:List Addr):Prop where
 a1:TI≠Z
 a2:TO≠Z
 a3:TI≠TO
 a4:TI≠i1
 a5:TI≠i2
 a6:TO≠i1
 a7:TO≠i2
 a8:i1≠i2
 a9:i1≠Z
 AY:i2≠Z
 b1:Z∉Aw
 b2:TO∉Aw
 b3:i2∉Aw
 c1:Z∉C0
 c2:TO∉C0
 c3:i1∉C0
section
variable {prog:Program}{w:World}{A:Around}{E:Value->Shared->Prop}{s:Shared}{Z TI TO i1 i2:Addr}{Aw C0:List Addr}{n1 n2 k:Nat}{Y1 Y2:Nat->Value->Prop}{S1 S2:Nat->Heap->Prop}{p q:Value}
theorem Ip {Q:Value->Shared->Prop}(D1:Draws prog w A i1 Aw n1 Y1 S1)(D2:Draws prog w A i2 C0 n2 Y2 S2)(N:sZ Z TI TO i1 i2 Aw C0)(zZ:IsZip s.heap Z TI TO .none)(zI:IsPair s.heap TI (.ref i1) (.ref i2))(zO:IsPair s.heap TO p q)
  (s1:S1 k s.heap) (s2:S2 k s.heap) (l1:k<n1) (l2:k<n2)
  (kk:∀x y h' tk,Y1 k x->Y2 k y->IsZip h' Z TI TO (rawInt s.heap.objs.size)->IsPair h' TO x y->S1 (k+1) h'->S2 (k+1) h'->IsPair h' s.heap.objs.size x y->(∀c o,c≠Z->c≠TO->c≠i1->c≠i2->s.heap.get? c=some o->h'.get? c=some o)->Q (.ref s.heap.objs.size) {s with heap:=h',toks:=tk}):
  wpAny (model prog w) A (Builtin.«zip.__next__» ⟨[.ref Z],[]⟩) (λfL s'=>∃v,fL = .done (.ret v)/\Q v s') E s:=by
 obtain⟨hp,g,d,tk0,os⟩:=s;show wpAny _ _ (field (.ref Z) 2 >>= _) _ _ _
 refine zaa (zax zZ rfl (x:=.bool false) rfl ?_)
 show wpAny _ _ (field (.ref Z) 3 >>= _) _ _ _
 refine zaa (zax zZ rfl (x:=.ref TI) rfl (zaa (zbl zI rfl ?_)))
 show wpAny _ _ (Builtin.SmallTypes.ownedTupleIsFree (.ref Z) >>= _) _ _ _
 refine zaa ?_
 unfold Builtin.SmallTypes.ownedTupleIsFree;refine zaa (zax zZ rfl (x:=.none) rfl (zad ?_))
 simp only[if_true];refine zaa (zcU (zaa (zax zZ rfl (x:=.ref TO) rfl ?_)))
 refine zaa (zbD zZ (by simp) λg1 LA b1=>?_)
 replace LA:IsZip g1 Z TI TO .ellipsis:=LA
 replace b1:Heap.SameBut Z hp g1:=b1
 refine zaa ?_
 simp only[List.zipIdx_cons,List.zipIdx_nil,List.forIn_cons,List.forIn_nil];-- wW first
 refine zaa (zaa (zcZ ?_))
 show wpAny _ _ (Builtin.SmallTypes.nextOf (.ref i1) >>= _) _ _ _
 refine zaa (D1.item k _ _ _ l1 (D1.frame _ _ _ s1 λb hb o e=>b1.extBut b o (λz=>N.b1 (z ▸ hb)) e) λx g2 t2 y1 s12 b2=>zad ?_)
 replace b2:Heap.SameBut i1 g1 g2:=b2
 have zO2:IsPair g2 TO p q:=b2.extBut _ _ N.a6 (b1.extBut _ _ N.a2 zO)
 refine zaa (zbl zO2 rfl (zaa (zdl zO2 λg3 zO3 b3=>?_)))
 replace zO3:IsPair g3 TO x q:=zO3
 replace b3:Heap.SameBut TO g2 g3:=b3
 refine zaa (zeq (zad ?_))
 -- wW ZH
 refine zaa (zaa (zcZ ?_))
 show wpAny _ _ (Builtin.SmallTypes.nextOf (.ref i2) >>= _) _ _ _
 refine zaa (D2.item k _ _ _ l2 (D2.frame _ _ _ s2 λb hb o e=>b3.extBut b o (λz=>N.c2 (z ▸ hb)) (b2.extBut b o (λz=>N.c3 (z ▸ hb)) (b1.extBut b o (λz=>N.c1 (z ▸ hb)) e))) λy g4 t4 y2 s24 b4=>zad ?_)
 replace b4:Heap.SameBut i2 g3 g4:=b4
 have zO4:IsPair g4 TO x q:=b4.extBut _ _ N.a7 zO3
 refine zaa (zbl zO4 rfl (zaa (zdl zO4 λg5 zO5 b5=>?_)))
 replace zO5:IsPair g5 TO x y:=zO5
 replace b5:Heap.SameBut TO g4 g5:=b5
 refine zaa (zeq (zad (zad ?_)))
 -- wW ap0
 refine zaa (zbl zO5 rfl (zaa (wpAny_newTuple ?_)))
 have z5:g5.objs.size=hp.objs.size:=by rw[b5.1,b4.1,b3.1,b2.1,b1.1]
 have zZ5:IsZip g5 Z TI TO .ellipsis:=b5.extBut _ _ N.a2.symm (b4.extBut _ _ N.AY.symm (b3.extBut _ _ N.a2.symm (b2.extBut _ _ N.a9.symm LA)))
 have s15:S1 (k+1) g5:=D1.frame _ _ _ s12 λb hb o e=>b5.extBut b o (λz=>N.b2 (z ▸ hb)) (b4.extBut b o (λz=>N.b3 (z ▸ hb)) (b3.extBut b o (λz=>N.b2 (z ▸ hb)) e))
 have s25:S2 (k+1) g5:=D2.frame _ _ _ s24 λb hb o e=>b5.extBut b o (λz=>N.c2 (z ▸ hb)) e
 have af8:∀c o,c≠Z->c≠TO->c≠i1->c≠i2->hp.get? c=some o->g5.get? c=some o:=λc o n1 n2 n3 n4 e=>b5.extBut _ _ n2 (b4.extBut _ _ n4 (b3.extBut _ _ n2 (b2.extBut _ _ n3 (b1.extBut _ _ n1 e))))
 have Zlt:Z<g5.objs.size:=zam zZ5
 show wpAny _ _ (Builtin.SmallTypes.ownedTupleHandOut (.ref Z) (.ref g5.objs.size) >>= _) _ _ _
 refine zaa ?_
 unfold Builtin.SmallTypes.ownedTupleHandOut;have zZ6:IsZip (g5.push { cls:=.type "tuple",data:=.seq #[x,y]}) Z TI TO .ellipsis:=zab _ zZ5
 refine zaa (zbD zZ6 (by simp) λg7 zZ7 b7=>?_)
 replace zZ7:IsZip g7 Z TI TO (rawInt g5.objs.size):=zZ7
 replace b7:Heap.SameBut Z (g5.push { cls:=.type "tuple",data:=.seq #[x,y]}) g7:=b7
 refine zbD zZ7 (by simp) λg8 zZ8 b8=>?_
 replace zZ8:IsZip g8 Z TI TO (rawInt g5.objs.size):=zZ8
 replace b8:Heap.SameBut Z g7 g8:=b8
 have up:∀c o,c≠Z->g5.get? c=some o->g8.get? c=some o:=λc o n e=>b8.extBut _ _ n (b7.extBut _ _ n (zab _ e))
 have zT:IsPair g8 g5.objs.size x y:=b8.extBut _ _ (zbS Zlt) (b7.extBut _ _ (zbS Zlt) (zan _ rfl))
 rw[z5] at zZ8 zT;refine zad ⟨_,rfl,?_⟩
 show Q (.ref g5.objs.size) _
 rw[z5];exact kk x y g8 _ y1 y2 zZ8 (up _ _ N.a2 zO5) (D1.frame _ _ _ s15 λb hb o e=>up b o (λz=>N.b1 (z ▸ hb)) e) (D2.frame _ _ _ s25 λb hb o e=>up b o (λz=>N.c1 (z ▸ hb)) e) zT λc o m1 m2 m3 m4 e=>up c o m1 (af8 c o m1 m2 m3 m4 e)
theorem LB {Q:Fin->Shared->Prop}(D1:Draws prog w A i1 Aw n1 Y1 S1)(N:sZ Z TI TO i1 i2 Aw C0)(zZ:IsZip s.heap Z TI TO .none)(zI:IsPair s.heap TI (.ref i1) (.ref i2))(s1:S1 n1 s.heap)
  (kk:∀h' x,(∀c o,c≠Z->c≠i1->s.heap.get? c=some o->h'.get? c=some o)->(∃o,h'.get? x=some o/\o.cls = .type "StopIteration")->E (.ref x) {s with heap:=h' }):
  wpAny (model prog w) A (Builtin.«zip.__next__» ⟨[.ref Z],[]⟩) Q E s:=by
 show wpAny _ _ (field (.ref Z) 2 >>= _) _ _ _
 refine zaa (zax zZ rfl (x:=.bool false) rfl ?_)
 show wpAny _ _ (field (.ref Z) 3 >>= _) _ _ _
 refine zaa (zax zZ rfl (x:=.ref TI) rfl (zaa (zbl zI rfl ?_)))
 show wpAny _ _ (Builtin.SmallTypes.ownedTupleIsFree (.ref Z) >>= _) _ _ _
 refine zaa ?_
 unfold Builtin.SmallTypes.ownedTupleIsFree;refine zaa (zax zZ rfl (x:=.none) rfl (zad ?_))
 simp only[if_true];refine zaa (zcU (zaa (zax zZ rfl (x:=.ref TO) rfl ?_)))
 refine zaa (zbD zZ (by simp) λg1 LA b1=>?_)
 replace LA:IsZip g1 Z TI TO .ellipsis:=LA
 replace b1:Heap.SameBut Z s.heap g1:=b1
 refine zaa ?_
 simp only[List.zipIdx_cons,List.zipIdx_nil,List.forIn_cons,List.forIn_nil];refine zaa (zaa (zcZ ?_))
 show wpAny _ _ (Builtin.SmallTypes.nextOf (.ref i1) >>= _) _ _ _
 refine zaa (D1.done _ _ _ (D1.frame _ _ _ s1 λb hb o e=>b1.extBut b o (λz=>N.b1 (z ▸ hb)) e) λg2 x b2 hx=>?_)
 replace b2:Heap.ExtBut i1 g1 g2:=b2
 obtain⟨ox,ex,cx⟩:=hx;have ZI:IsZip g2 Z TI TO .ellipsis:=b2 _ _ N.a9.symm LA
 have xZ:x≠Z:=λz=>by
  subst z;rw[ZI] at ex;cases ex;simp at cx
 exact zbD ZI (by simp) λg3 _ b3=>kk g3 x (λc o m1 m2 e=>b3.extBut _ _ m1 (b2 _ _ m2 (b1.extBut _ _ m1 e))) ⟨ox,b3.extBut _ _ xZ ex,cx⟩
theorem DM {Q:Option Value->Shared->Prop}(D1:Draws prog w A.in1 i1 Aw n1 Y1 S1)(D2:Draws prog w A.in1 i2 C0 n2 Y2 S2)(N:sZ Z TI TO i1 i2 Aw C0)(zZ:IsZip s.heap Z TI TO .none)(zI:IsPair s.heap TI (.ref i1) (.ref i2))(zO:IsPair s.heap TO p q)
  (s1:S1 k s.heap) (s2:S2 k s.heap) (l1:k<n1) (l2:k<n2)
  (kk:∀x y h' tk,Y1 k x->Y2 k y->IsZip h' Z TI TO (rawInt s.heap.objs.size)->IsPair h' TO x y->S1 (k+1) h'->S2 (k+1) h'->IsPair h' s.heap.objs.size x y->(∀c o,c≠Z->c≠TO->c≠i1->c≠i2->s.heap.get? c=some o->h'.get? c=some o)->Q (some (.ref s.heap.objs.size)) {s with heap:=h',toks:=tk}):
  wpAny (model prog w) A (pyNext (.ref Z)) Q E s:=by
 have zT:s.TypeIs (.ref Z) "zip" := ⟨_,zZ,rfl⟩
 unfold pyNext;exact zaa (zda (zaN (name:=Str.ofString "__next__") zT zcx (zaY zcx zT zdY
  (Ip D1 D2 N zZ zI zO s1 s2 l1 l2 λx y h' tk r1 r2 r3 r4 r5 r6 r7 r8=>zad (kk x y h' tk r1 r2 r3 r4 r5 r6 r7 r8)) (zdM _))))
theorem Iq {Q:Option Value->Shared->Prop}(D1:Draws prog w A.in1 i1 Aw n1 Y1 S1)(N:sZ Z TI TO i1 i2 Aw C0)(zZ:IsZip s.heap Z TI TO .none)(zI:IsPair s.heap TI (.ref i1) (.ref i2))(s1:S1 n1 s.heap)
  (kk:∀h',(∀c o,c≠Z->c≠i1->s.heap.get? c=some o->h'.get? c=some o)->Q none {s with heap:=h' }):wpAny (model prog w) A (pyNext (.ref Z)) Q E s:=by
 have zT:s.TypeIs (.ref Z) "zip" := ⟨_,zZ,rfl⟩
 unfold pyNext;refine zaa (zda (zaN (name:=Str.ofString "__next__") zT zcx (zaY zcx zT zdY (LB D1 N zZ zI s1 λh' x up hx=>?_) (zdM _))))
 obtain⟨ox,ex,cx⟩:=hx;exact zaa (zdZ (T:= "StopIteration") (b:=true) ⟨ox,ex,cx⟩ zew (zad (kk _ up)))
end
noncomputable def Itz (K:PySem.W.Frag)(s_ xx:Bool)(a b:Addr):It:=
  ⟨λi H=>∃xs ys x y,AX K s_ H a xs/\AX K xx H b ys/\xs[i]? = some x/\ys[i]? = some y,
   λi H v H'=>∃T x y,H T=none/\v = .ref T/\H'=br H T (.gp [x,y])/\(∀xs,AX K s_ H a xs->xs[i]? = some x)/\∀ys,AX K xx H b ys->ys[i]? = some y,
   λi H=>∃xs,AX K s_ H a xs/\xs.length=i⟩
theorem Kc {x y:Nat}(h:x<y): @Ne Addr x y:=zaq h
theorem C1 {x y:Nat}(h:y<x): @Ne Addr x y:=zbS h
theorem Ir {z x y:Addr}(h1:z≠x)(h2:z≠y):z∉[x,y]:=by simp[h1,h2]
theorem tu {a b n:Nat}(ha:a<n)(hb:b<n):sZ (n+4:Nat) (n+2:Nat) (n+3:Nat) n (n+1:Nat) [n,a] [(n+1:Nat),b]:=
  ⟨Kc (by omega),Kc (by omega),Kc (by omega),C1 (by omega),C1 (by omega),C1 (by omega),C1 (by omega),Kc (by omega),Kc (by omega),Kc (by omega),
   Ir (C1 (by omega)) (C1 (by omega)),Ir (C1 (by omega)) (C1 (by omega)),Ir (C1 (by omega)) (C1 (by omega)),Ir (C1 (by omega)) (C1 (by omega)),Ir (C1 (by omega)) (C1 (by omega)),Ir (Kc (by omega)) (C1 (by omega))⟩
theorem jX {P:Program}{w:World}{K:PySem.W.Frag}{elts:List Expr}{x1}{pos:Pos}(s_ xx:Bool)(a b n:Nat)(ha:a<n)(hb:b<n):
    HM P w K (.Tuple elts x1 pos) (Itz K s_ xx a b) [(n+4:Nat),(n+2:Nat),(n+3:Nat),n,(n+1:Nat)] (n+4:Nat)
      (λi h=>IsZip h (n+4:Nat) (n+2:Nat) (n+3:Nat) .none/\IsPair h (n+2:Nat) (.ref n) (.ref (n+1:Nat))/\(∃p q,IsPair h (n+3:Nat) p q)/\mw s_ h n a i/\mw xx h (n+1:Nat) b i) where
  mem:=by simp
  lC:=λi h t c hc=>by
    obtain⟨zZ,zI,⟨p,q,zO⟩,t1,t2⟩:=t
    simp only[zap,zaC,or_false] at hc;rcases hc with rfl|rfl|rfl|rfl|rfl
    · exact⟨_,zZ,λv z=>by cases z⟩
    · exact⟨_,zI,λv z=>by cases z⟩
    · exact⟨_,zO,λv z=>by cases z⟩
    · exact t1.lC
    · exact t2.lC
  keep:=λi h h' t k=>by
    obtain⟨zZ,zI,⟨p,q,zO⟩,t1,t2⟩:=t
    exact⟨k _ (.head _) _ zZ,k _ (.tail _ (.head _)) _ zI,⟨p,q,k _ (.tail _ (.tail _ (.head _))) _ zO⟩,t1.sM λo e=>k _ (.tail _ (.tail _ (.tail _ (.head _)))) o e,t2.sM λo e=>k _ (.tail _ (.tail _ (.tail _ (.tail _ (.head _))))) o e⟩
  item:=by
    intro X hP hw hK hc i ah s σ H E I hf t hg;subst hP hw hK;obtain⟨zZ,zI,⟨p,q,zO⟩,t1,t2⟩:=t
    obtain⟨xs,ys,x,y,hxs,hys,hx,hy⟩:=hg;obtain⟨aH,rv,so,_⟩:=I.ZC hxs;obtain⟨Rh,yO,so',_⟩:=I.ZC hys;obtain⟨u,hu,ru⟩:=rv.get hx;obtain⟨v,hv,rv'⟩:=yO.get hy;have hh:X.A.in1.handled=none:=I.ok.hd hc
    have D1:=jW (P:=X.prog) (w:=X.w) (A:=X.A.in1) hh s_ n a (Kc ha) aH.toArray
    have D2:=jW (P:=X.prog) (w:=X.w) (A:=X.A.in1) hh xx (n+1:Nat) b (Kc (by omega)) Rh.toArray
    have N:=tu ha hb;have l1:i<aH.toArray.size:=by simpa using (zae.mp hu).1
    have l2:i<Rh.toArray.size:=by simpa using (zae.mp hv).1
    refine DM D1 D2 N zZ zI zO ⟨t1,so⟩ ⟨t2,so'⟩ l1 l2 λu' v' h' tk e1 e2 zZ' zO' t1' t2' zT up=>⟨_,rfl,?_⟩
    have eu:u'=u:=by
      have hu':aH.toArray[i]? = some u:=by simpa using hu
      have e1':aH.toArray[i]? = some u':=e1
      rw[hu'] at e1';exact (zas e1').symm
    have ev:v'=v:=by
      have hv':Rh.toArray[i]? = some v:=by simpa using hv
      have e2':Rh.toArray[i]? = some v':=e2
      rw[hv'] at e2';exact (zas e2').symm
    subst eu ev;refine wpAny_letOwnedTupleGo_zip (s:={s with heap:=h',toks:=tk}) zZ' λh2 ZI sb=>?_
    have sb:Heap.SameBut (n+4:Nat) h' h2:=sb
    have Zlt:(n+4:Nat)<s.heap.objs.size:=zam zZ
    obtain⟨I2,fr⟩:=I.ZD (h':=h2) (t':=tk) (fp:=[(n+4:Nat),(n+2:Nat),(n+3:Nat),n,(n+1:Nat)]) (x:=x) (y:=y) (u:=u') (v:=v') hf ru rv'
      (λc hc=>by
        simp only[zap,zaC,or_false] at hc;rcases hc with hc|hc|hc|hc|hc<;>rw[hc]
        · exact Zlt
        · exact (by omega:n+2<s.heap.objs.size)
        · exact (by omega:n+3<s.heap.objs.size)
        · exact (by omega:n<s.heap.objs.size)
        · exact (by omega:n+1<s.heap.objs.size))
      ((sb.2 _ (C1 Zlt)).trans zT) (λc o hc e=>by
        simp only[zap,zaC,or_false,not_or] at hc;exact (sb.2 c hc.1).trans (up c o hc.1 hc.2.2.1 hc.2.2.2.1 hc.2.2.2.2 e))
    refine⟨.ref s.heap.objs.size,_,I2,rfl,⟨s.heap.objs.size,x,y,I.cg.fresh (zah _),rfl,rfl,λzs hz=>by rw[I.F1 hz hxs];exact hx,λzs hz=>by rw[I.F1 hz hys];exact hy⟩,⟨ZI,?_,⟨u',v',?_⟩,?_,?_⟩,fr⟩
    · exact (sb.2 _ N.a1).trans (up _ _ N.a1 N.a3 N.a4 N.a5 zI)
    · exact (sb.2 _ N.a2).trans zO'
    · exact t1'.1.sM λo e=>(sb.2 _ N.a9).trans e
    · exact t2'.1.sM λo e=>(sb.2 _ N.AY).trans e
  done:=by
    intro X hP hw hK hc i ah s σ H E I hf t hg;subst hP hw hK;obtain⟨zZ,zI,_,t1,t2⟩:=t;obtain⟨xs,hxs,hx⟩:=hg;obtain⟨aH,rv,so,_⟩:=I.ZC hxs;have hh:X.A.in1.handled=none:=I.ok.hd hc
    have D1:=jW (P:=X.prog) (w:=X.w) (A:=X.A.in1) hh s_ n a (Kc ha) aH.toArray
    have N:=tu ha hb;have hn:aH.toArray.size=i:=by
      have:=rv.length
      simp
      omega
    exact Iq D1 N zZ zI (by rw[hn];exact⟨t1,so⟩) λh' up=>⟨rfl,I.zg (fp:=[(n+4:Nat),(n+2:Nat),(n+3:Nat),n,(n+1:Nat)]) (t':=s.toks) (λc o hc e=>up c o (λz=>hc (by simp[z])) (λz=>hc (by simp[z])) e) hf⟩
  self:=λ_ _ _ _ _ t h=>wpAny_pyIter_zip t.1 h
noncomputable abbrev zq1 (h:Heap)(o1:Obj):Heap:=h.push o1
noncomputable abbrev zq2 (h:Heap)(o1 o2:Obj):Heap:=(zq1 h o1).push o2
noncomputable abbrev zq3 (h:Heap)(o1 o2:Obj):Heap:=(zq2 h o1 o2).push { cls:=.type "tuple",data:=.seq #[.ref h.objs.size,.ref (zq1 h o1).objs.size]}
noncomputable abbrev UY (h:Heap)(o1 o2:Obj):Heap:=(zq3 h o1 o2).push { cls:=.type "tuple",data:=.seq #[.none,.none]}
noncomputable abbrev C2 (h:Heap)(o1 o2:Obj):Heap:=(UY h o1 o2).push { cls:=.type "zip",data:=.fields #[.none,.bool false,.bool false,.ref (zq2 h o1 o2).objs.size,.ref (zq3 h o1 o2).objs.size]}
theorem LC (h:Heap)(o1 o2:Obj)(f1:o1.isFreed=false)(f2:o2.isFreed=false):(UY h o1 o2).objs.size=h.objs.size+4/\IsZip (C2 h o1 o2) (h.objs.size+4) (h.objs.size+2) (h.objs.size+3) .none /\
  IsPair (C2 h o1 o2) (h.objs.size+2) (.ref h.objs.size) (.ref (h.objs.size+1))/\IsPair (C2 h o1 o2) (h.objs.size+3) .none .none/\(C2 h o1 o2).get? h.objs.size=some o1/\(C2 h o1 o2).get? (h.objs.size+1)=some o2 /\
  ∀c o,h.get? c=some o->(C2 h o1 o2).get? c=some o:=by
 have s1:(zq1 h o1).objs.size=h.objs.size+1:=zbN ..
 have s2:(zq2 h o1 o2).objs.size=h.objs.size+2:=by rw[zbN,s1]
 have s3:(zq3 h o1 o2).objs.size=h.objs.size+3:=by rw[zbN,s2]
 have s4:(UY h o1 o2).objs.size=h.objs.size+4:=by rw[zbN,s3]
 have e5:(C2 h o1 o2).get? (UY h o1 o2).objs.size=some _:=zan _ rfl
 have e4:(C2 h o1 o2).get? (zq3 h o1 o2).objs.size=some _:=zab _ (zan _ rfl)
 have e3:(C2 h o1 o2).get? (zq2 h o1 o2).objs.size=some _:=zab _ (zab _ (zan _ rfl))
 have e2:(C2 h o1 o2).get? (zq1 h o1).objs.size=some o2:=zab _ (zab _ (zab _ (zan _ f2)))
 have e1:(C2 h o1 o2).get? h.objs.size=some o1:=zab _ (zab _ (zab _ (zab _ (zan _ f1))))
 rw[s2,s3,s4] at e5;rw[s1,s2] at e3;rw[s3] at e4;rw[s1] at e2;exact⟨s4,e5,e3,e4,e1,e2,λc o e=>zab _ (zab _ (zab _ (zab _ (zab _ e))))⟩
noncomputable def gS (κ:Bool)(a:Addr):Obj:=match κ with|true=>{ cls:=.type "tuple_iterator",data:=.fields #[.ref a,.int 0 0]} | false=>{ cls:=.type "list_iterator",data:=.fields #[.ref a,.int 0 0]}
theorem DN (a b:Addr)(xs ys:Array Value):
  Meets (Builtin.«zip.__new__» ⟨[.type "zip",.ref a,.ref b],[]⟩) (λ_ R s=>s.heap.IsTuple a xs/\s.heap.IsTuple b ys/\R (.ok (.ret (.ref (UY s.heap (gS true a) (gS true b)).objs.size))) {s with heap:=C2 s.heap (gS true a) (gS true b)}):=
 .of_wp λprog w A R s h=>by
  obtain⟨hp,g,d,tk,os⟩:=s;obtain⟨h1,h2,h⟩:=h;have Iu:=sub_zip;have q1:Heap.IsTuple (Shared.heap ⟨hp,g,d,tk,os⟩) a xs:=h1
  have q2:Heap.IsTuple (Shared.heap ⟨hp.push { cls:=.type "tuple_iterator",data:=.fields #[.ref a,.int 0 0]},g,d,tk,os⟩) b ys:=Heap.IsTuple.push h2 _
  wp_walk using wpAny_pyIter_tuple q1,wpAny_pyIter_tuple q2
  exact⟨_,rfl,h⟩
theorem DO (a b:Addr)(xs ys:Array Value):
  Meets (Builtin.«zip.__new__» ⟨[.type "zip",.ref a,.ref b],[]⟩) (λ_ R s=>s.heap.IsList a xs/\s.heap.IsList b ys/\R (.ok (.ret (.ref (UY s.heap (gS false a) (gS false b)).objs.size))) {s with heap:=C2 s.heap (gS false a) (gS false b)}):=
 .of_wp λprog w A R s h=>by
  obtain⟨hp,g,d,tk,os⟩:=s;obtain⟨h1,h2,h⟩:=h;have Iu:=sub_zip;have q1:Heap.IsList (Shared.heap ⟨hp,g,d,tk,os⟩) a xs:=h1
  have q2:Heap.IsList (Shared.heap ⟨hp.push { cls:=.type "list_iterator",data:=.fields #[.ref a,.int 0 0]},g,d,tk,os⟩) b ys:=Heap.IsList.push h2 _
  wp_walk using zce q1,zce q2
  exact⟨_,rfl,h⟩
theorem Iv (κ:Bool)(a b:Addr)(xs ys:Array Value):
  Meets (Builtin.«zip.__new__» ⟨[.type "zip",.ref a,.ref b],[]⟩) (λ_ R s=>o5 κ s.heap a xs/\o5 κ s.heap b ys/\R (.ok (.ret (.ref (UY s.heap (gS κ a) (gS κ b)).objs.size))) {s with heap:=C2 s.heap (gS κ a) (gS κ b)}):=by
 cases κ with
 |true=>exact DN a b xs ys
 |false=>exact DO a b xs ys
theorem AZ {κ:Bool}{h:Heap}{a it:Addr}(e:h.get? it=some (gS κ a)):mw κ h it a 0:=by
 cases κ with
 |true=>exact⟨_,e,rfl,rfl⟩
 |false=>exact⟨_,e,rfl,rfl⟩
theorem tw {κ:Bool}{a:Addr}:(gS κ a).isFreed=false:=by cases κ<;>rfl
theorem o5.lt {κ:Bool}{h:Heap}{a:Addr}{aH:Array Value}(st:o5 κ h a aH):a<h.objs.size:=by
 cases κ with
 |true=>obtain⟨o,e,_⟩:=st;exact zam e
 |false=>obtain⟨o,e,_⟩:=st;exact zam e
theorem LD:bootBuiltins "zip"=some (.type "zip"):=by decide +kernel
open AutoSeq1 (wpAny_loadPart')
theorem LF (a b:Str):(a++b).cps.toList=a.cps.toList++b.cps.toList:=by rw[Str.cps_append,Array.toList_append]
theorem UZ {j l:Addr}{vs:Array Value}(hn:l≠j):∀(m i:Nat) (s:Shared) (Q:List Value->Shared->Prop),s.heap.IsListIter j l i->s.heap.IsList l vs->i+m<=vs.size ->
  (∀h',h'.IsListIter j l (i+m)->Heap.SameBut j s.heap h'->Q ((vs.toList.drop i).take m) {s with heap:=h' })->wpAny (model prog w) A (draw (.ref j) m) Q E s
 |0,i,s,Q,hj,_,_,k=>by
  show wpAny _ _ (pure []) Q E s
  exact zad (by simpa using k s.heap hj (Heap.SameBut.refl ..))
 |m+1,i,s,Q,hj,hl,hle,k=>by
  have lt:i<vs.size:=by omega
  show wpAny _ _ (pyNext (.ref j) >>= _) Q E s
  refine zaa (wpAny_pyNext_list_item hj hl (x:=vs[i]) (by simp[lt]) λg1 j1 b1=>zaa (zaD (UZ hn m (i+1) _ _ j1 (hl.extBut b1.extBut hn) (by omega) λg2 j2 b2=>zad ?_)))
  have e:vs.toList.drop i=vs[i]::vs.toList.drop (i+1):=by simp[zcL,lt]
  have q:=k g2 (by rw[show i+(m+1)=i+1+m by omega];exact j2) (b1.trans b2)
  rw[e,List.take_succ_cons] at q;exact q
theorem Ri {s:Shared}{l:Addr}{vs:Array Value}{Q:List Value->Shared->Prop}(hh:A.handled=none)(hl:s.heap.IsList l vs)(k:∀h',Heap.ExtBut s.heap.objs.size s.heap h'->Q vs.toList {s with heap:=h' }):
  wpAny (model prog w) A (unpackItems (.ref l) vs.size none) Q E s:=by
 have lt:l≠s.heap.objs.size:=by obtain⟨o,e,_⟩:=hl;exact zaq (zam e)
 unfold unpackItems;refine zaa ?_
 unfold notIterableAtAll;refine zaa (zeg hl.typeIs slot_list_iter.lookup (zad ?_))
 simp only[zbp,if_false];refine zaa (zaD (zce hl (zaa (zaD (UZ lt vs.size 0 _ _ ⟨_,zan _ rfl,rfl,rfl⟩ (hl.push _) (by omega) λg1 j1 b1=>?_)))))
 have all:List.take vs.size (List.drop 0 vs.toList)=vs.toList:=by
  rw[List.drop_zero];exact zby (by simp)
 rw[all,if_neg (by simp)]
 refine zaa (zaD (wpAny_pyNext_list_end hh j1 ((hl.push _).extBut b1.extBut lt) (by simp) λg2 b2=>?_))
 simp only[Option.isSome_none,zbp,if_false];exact zad (k g2 λb o hb e=>b2 b o hb (b1.extBut b o hb (zab _ e)))
noncomputable def agd (K:PySem.W.Frag)(n:Nat)(t:UK):TG:=λv σ H Q=>∃a xs,v = .ref a/\i6 K H a xs/\xs.length=n/\t xs σ H Q
theorem Rj {X:Cx}{es:List Expr}{k:Nat}{pos:Pos}{t:UK}{n:Nat}(hc:X.fM=true)(h:PX X es t)
  (hn:(assignEach es X.env).length=n:=by rfl) (qa:(assignEach es X.env).findIdx? (·.1)=none:=by rfl):PG X (.Tuple es k pos) (agd X.K n t):=by
 intro ah s σ H v u Q I r hw;obtain⟨a,xs,e1,hq,hl,hw⟩:=hw;subst e1;cases r;obtain⟨aH,rv,pl,hz⟩:=I.list hq;rw[assign_Tuple];refine zaa (zcc ?_)
 unfold unpack;have cJ:(assignEach es X.env).length=aH.toArray.size:=by simp[hn,<-hl,rv.length]
 rw[cJ,qa];refine zaa (zaD (Ri (I.ok.hd hc) pl.isList λh' hx=>?_))
 have I1:aI X ah σ H {s with heap:=h' }:=I.gz (t':=s.toks) λb o e=>hx b o (zaq (zam e)) e
 exact h ah _ σ H xs _ Q I1 (by simpa using rv) hw
theorem Rl (S:dB X F T fr sc)(hc:X.fM=true)(hi:PI X target d8 wi)
  (hg:∀C fp s H xe,PG (qQ X (F++T) sc C fp s H xe) target g) (Q6:∀C fp s H xe,DH (qQ X (F++T) sc C fp s H xe) rF ti) (he:∀C fp s H xe,PE (qQ X (F++T) sc C fp s H xe) Av te)
  (hN:X.N.Nodup) (hiy:X.N[i0]? = some y) (hly:X.env.scope.names.lookup y=some .local) (hex:X.ex=[])
  (Rm:swapsWith (.ListComp Av [⟨target,d8,rF,0⟩] sc pos) (some (.Name y py)) ZJ.line X.env=pure true:=by rfl) (hs:∀x,foldedSetIterable d8 X.env x=pure x:=by intro _;rfl):PS X (.Assign [.Name y py] (.ListComp Av [⟨target,d8,rF,0⟩] sc pos) ZJ) (Ql (FY wi fr T g ti te) (FG i0)):=by
 intro ah s σ H DD I h;rw[exec_Assign_Name_used _ _ _ _ Rm];refine zaa (zcc (zaa ?_))
 show wpAny _ X.A (do let _ <-comprehension (.ListComp Av [⟨target,d8,rF,0⟩] sc pos) sc X.env _ (newList []) false (eval d8 X.env) (some (assign (.Name y py) X.env))) _ _ s
 refine zaa (zaQ (AV (use:=some (assign (.Name y py) X.env)) (QQ:=λ_ s'=>SP X ah DD .next s') S hc hi hg Q6 he hs I h λD C fp s3 s7 H3 H6 xe KJ I3 f3 Q7 I7 qn=>?_) (λ_ s' hq=>zad (zad hq)) λ_ _ e=>e)
 obtain⟨m7,hn7,_⟩:=I7.AD;have hCn:H6 C=none:=I7.free
 have I8:aI X ah σ H6 s7:=I3.FD (s':=s7) (H':=H6) (ch:=fp) I7.os I7.base I7.cg I7.iR λb hb=>by
  obtain⟨_,q1,_,q2,q3,q4⟩:=f3 b hb;exact⟨q2,q1,q3,q4⟩
 have Cge:X.s₀.heap.objs.size<=C:=by rw[<-Q7];exact I3.sz
 have CL:C≠X.env.locals:=λz=>by
  have:=I3.lt
  rw[<-z,<-Q7] at this;exact zbc _ this
 have CC:∀z c,X.env.cells.lookup z=some c->c≠C:=λz c e q=>by
  obtain⟨v,hv⟩:=I3.cell z c e
  have:=hv.lt
  rw[q,<-Q7] at this;exact zbc _ this
 have CP:∀p∈X.pn++ah,p.1≠C:=λp hp q=>by
  have:=zam (I3.CU p hp).1
  rw[q,<-Q7] at this;exact zbc _ this
 show wpAny _ X.A (assign (.Name y py) X.env (.ref D)) _ _ s7
 refine wpAny_assign_Name (wX I8 hN hiy (.inl hly) (v:=.ref D) rfl (λs8 I9 sb=>?_) (.inr hly))
 obtain⟨a8,sb8,ha8⟩:=sb;have a8C:C≠a8:=by
  rcases ha8 with z|z
  ·rw[z];exact CL
  ·exact zbj (CC _ _ z)
 refine⟨m7,hn7.sameBut sb8 a8C,λh9 hs9=>⟨_,H6,?_,qn⟩⟩
 exact I9.nU (it:=C) (t':=s8.toks) (λb o nb e=>(hs9.2 b nb).trans e) hCn CL (.inr Cge) CC CP
end L2
namespace L2
open PySem PySem.Spec PyProof.Rows
noncomputable def lD (C:Addr)(od:Option Addr)(t:Addr)(tb:Value):Obj:={cls:=.ref C,dict:=od,data:=.fields #[.ref t,tb,.none,.none,.bool false,.none]}
noncomputable def wB (h:Heap)(T:Addr):Prop:=∃oT ts,h.get? T=some oT/\oT.data = .fields ts/\ts[3]? = some Value.none
section
variable {M:Model}{A:Around}{E:Value->Shared->Prop}{s:Shared}
structure LG (S:List Addr) (a C t:Addr) (od:Option Addr) (h h':Heap) (T:Addr):Prop where
 lC:h'.get? a=some (lD C od t (.ref T))
 tb:wB h' T
 new:h.objs.size<=T
 keep:∀b o,h.get? b=some o->b≠a->b∉S->h'.get? b=some o
 slot:∀b o,h.get? b=some o->b≠a->∃sl,h'.get? b=some {o with slots:=sl}
theorem xy 
  (C3:A.frames=some (env::outer)) (hl:s.heap.FunFrames base (env::outer)) (hf:env.frame=some L) (ha:s.heap.get? a=some (lD C od t tb))
  (k:∀h' T,LG ((env::outer).filterMap (·.frame)) a C t od s.heap h' T->Q () {s with heap:=h' }):
  wpAny M A (do let fr <-frameOf env;let pl <-entryPlaceOf L ajJ;let b <-EntryCells.newEntry head fr .none (rawInt L) .none pl;setField (.ref a) 1 b) (λ_ s'=>wpAny M A (setFlight (.ref a) none) Q E s') E s:=by
 have na:a∉(env::outer).filterMap (·.frame):=λhm=>by
  obtain⟨_,o,ho,hnf⟩:=hl.mem hm;rw[ha] at ho;cases ho;exact hnf _ rfl
 refine zaa (wpAny_frameOf_fun C3 hl hf λg1 DP=>zaa (wpAny_entryPlaceOf λpl hpl=>?_))
 unfold EntryCells.newEntry newFields;refine zaa (zaO ?_ (hpl.sizeOk5 _ _ _ _ _))
 have ZK:g1.get? a=some (lD C od t tb):=(DP.2.1 a na).trans ha
 generalize hts:([head,Value.ref L,Value.none,rawInt L,Value.none]++(if pl.isEmpty then List.replicate 6 Value.none else pl)).toArray=ts
 have h3:3<ts.size:=by rw[<-hts];simp only[zal,zak,zav,zbe];omega
 have P1:(g1.push { cls:=.type "traceback",dict:=none,data:=.fields ts}).get? a=some (lD C od t tb):=zab _ ZK
 have Ta:g1.objs.size≠a:=zbS (zam ZK)
 refine zbO P1 rfl (by show 1<6;decide) ?_
 have ha3:((g1.push { cls:=.type "traceback",dict:=none,data:=.fields ts}).update a (Obj.mapFields (·.setIfInBounds 1 (Value.ref g1.objs.size)))).get? a=some (lD C od t (.ref g1.objs.size)):=by
  rw[zaU _ P1 rfl];rfl
 have ZL:((g1.push { cls:=.type "traceback",dict:=none,data:=.fields ts}).update a (Obj.mapFields (·.setIfInBounds 1 (Value.ref g1.objs.size)))).get? g1.objs.size=some { cls:=.type "traceback",dict:=none,data:=.fields ts}:=
  (zaz _ _ (zbj Ta)).trans (zan g1 rfl)
 unfold setFlight;refine zaa (zax ha3 rfl (x:=.ref g1.objs.size) rfl ?_)
 rw[if_pos (show (Value.ref g1.objs.size != Value.none)=true from by simp)]
 refine zbO ZL rfl h3 (k _ g1.objs.size ?_)
 have keep:∀b o,b≠a->g1.get? b=some o->(((g1.push { cls:=.type "traceback",dict:=none,data:=.fields ts}).update a (Obj.mapFields (·.setIfInBounds 1 (Value.ref g1.objs.size)))).update g1.objs.size
   (Obj.mapFields (·.setIfInBounds 3 ((none:Option Addr).elim Value.none λf=>rawInt f)))).get? b=some o:=λb o nb hb=>by
  have hbT:g1.objs.size≠b:=zbS (zam hb)
  rw[zaz _ _ hbT,zaz _ _ (zbj nb)];exact zab _ hb
 refine⟨?_,⟨_,_,zaU _ ZL rfl,rfl,by simp[h3]⟩,by rw[DP.1];exact zah _,λb o hb nb nS=>keep b o nb ((DP.2.1 b nS).trans hb),λb o hb nb=>?_⟩
 ·rw[zaz _ _ Ta]
  exact ha3
 ·obtain⟨sl,hs⟩:=DP.2.2 b o hb
  exact⟨sl,keep b _ nb hs⟩
theorem A0 
  (C3:A.frames=some (env::outer)) (hl:s.heap.FunFrames base (env::outer)) (hf:env.frame=some L) (ha:s.heap.get? a=some (lD C od t .none))
  (k:∀h' T,LG ((env::outer).filterMap (·.frame)) a C t od s.heap h' T->Q () {s with heap:=h' }):wpAny M A (leaving env (.ref a)) Q E s:=by
 unfold leaving noteFrame;simp only[hf];refine zaa (zaa (zax ha rfl (x:=.none) rfl ?_))
 rw[if_neg (by decide)]
 exact xy C3 hl hf ha k
theorem Iw 
  (C3:A.frames=some (env::outer)) (hl:s.heap.FunFrames base (env::outer)) (hf:env.frame=some L) (ha:s.heap.get? a=some (lD C od t (.ref T))) (hT:wB s.heap T) (nT:T≠a)
  (k:∀h1 h' T',(∀b o,b≠T->s.heap.get? b=some o->h1.get? b=some o)->wB h1 T->h1.objs.size=s.heap.objs.size->LG ((env::outer).filterMap (·.frame)) a C t od h1 h' T'->Q () {s with heap:=h' }):wpAny M A (noteFrame (.ref a) env) (λ_ s'=>wpAny M A (setFlight (.ref a) none) Q E s') E s:=by
 obtain⟨oT,ts,eT,dT,h3⟩:=hT;unfold noteFrame;simp only[hf];refine zaa (zax ha rfl (x:=.ref T) rfl ?_)
 rw[if_pos (show (Value.ref T != Value.none)=true from by simp)]
 refine zaa (zax eT dT h3 ?_)
 rw[if_neg (show ¬ ((Value.none == rawInt L)=true) from by simp[rawInt])]
 have sz:=(zdH.mp h3).1
 refine zaa (zbO eT dT sz ?_)
 have Fw:∀b o,b≠T->s.heap.get? b=some o->(s.heap.update T (Obj.mapFields (·.setIfInBounds 3 Value.none))).get? b=some o:=λb o nb e=>(zaz _ _ (zbj nb)).trans e
 have fT:(s.heap.update T (Obj.mapFields (·.setIfInBounds 3 Value.none))).get? T=some (Obj.mapFields (·.setIfInBounds 3 Value.none) oT):=zaU _ eT (zcD (zbq dT _))
 have hl':(s.heap.update T (Obj.mapFields (·.setIfInBounds 3 Value.none))).FunFrames base (env::outer):=hl.of_keeps λb o hb hnf=>⟨o,Fw b o (λq=>by rw[q,eT] at hb;cases hb;exact hnf ts dT) hb,rfl⟩
 refine xy (s:={s with heap:=s.heap.update T (Obj.mapFields (·.setIfInBounds 3 Value.none))}) C3 hl' hf (Fw a _ (zbj nT) ha) λh' T' lf=>k _ h' T' Fw ⟨_,_,fT,zbq dT _,by simp[sz]⟩ ?_ lf
 exact (zco ..).1
end
theorem Iz (hh:A.handled=none)
  (h:wpAny M A x (λv s1=>∃(a t:Addr) (od:Option Addr) (nm q:Str) (C N:Addr) (bs bm:List Value) (wA:Bool) (sn:List Str) (sub:List Value) (ab:Bool) (sY:Option Bool) (dd:Option Addr) (k0 k1 k2 k3 k5:Option Value) (o6:String),v = .ref a /\
   bm.contains (.type "BaseException")=true/\s1.heap.get? C=some (excClassObj nm q C N bs bm wA sn sub ab sY dd k0 k1 k2 k3 k5 o6)/\s1.heap.get? a=some (kG C od t)/\E (.ref a) s1) E s):wpAny M A (raiseStmt env (some x) none) Q E s:=by
 unfold raiseStmt;refine zaa (zaQ h (λv s1 h1=>?_) λ_ _ z=>z)
 obtain⟨a,t,od,nm,q,C,N,bs,bm,wA,sn,sub,ab,sY,dd,k0,k1,k2,k3,k5,o6,rfl,hb,hC,ha,hE⟩:=h1;have hcb:(Value.ref C::bm).contains (.type "BaseException")=true:=by rw[zbC,hb,zcQ]
 unfold kG at ha;obtain⟨hp,g,d,tk,os⟩:=s1;repeat (first|with_reducible refine zbK ha ?_|with_reducible refine zbK hC ?_ | (with_reducible refine zcI hC ?_;rw[hcb])|wp_step)
 exact wpAny_raiseNew_none hh hE
noncomputable def tD (a C:Addr)(od:Option Addr)(T:Addr):HO:=.ext λh=>∃t:Addr,h.get? a=some (lD C od t (.ref T))
noncomputable def TB (T:Addr):HO:=.ext λh=>wB h T
theorem LH (e:h.get? a=some (lD C od t (.ref T))):bY P w H h a (tD a C od T):=
 ⟨⟨t,e⟩,⟨_,e⟩,λh1 h2 b9 k=>by obtain⟨t',e'⟩:=b9;exact⟨t',k _ e'⟩⟩
theorem F2 (e:wB h T):bY P w H h T (TB T):=by
 obtain⟨oT,ts,e1,e2,e3⟩:=id e;exact⟨e,⟨_,e1⟩,λh1 h2 cZ k=>by obtain⟨o,ts',x1,x2,x3⟩:=cZ;exact⟨o,ts',k _ x1,x2,x3⟩⟩
noncomputable def wC (P:Program)(w:World):CW:=λouter H s E e s'=>∃(a T C:Addr) (od:Option Addr) (H':Hp),e = .ref a/\s'.os=s.os/\AllBare s'.gens/\Un (rT outer) [] H H' s.heap s'.heap/\nI P w H' s'.heap /\
 H' a=some (tD a C od T)/\H' T=some (TB T)/\T≠a/\E (.ref C) (some a) H'
noncomputable def ZM (K:PySem.W.Frag)(E:XK)(te:TE):TS:=λ_ σ H=>te σ H λv H1=>∃(a C f:Addr) (bm:List Value) (od:Option Addr),v = .ref a/\H1 a=some (EO a C od)/\rX K C f bm /\
 ∀T,H1 T=none->T≠a->E (.ref C) (some a) (br (br H1 a (tD a C od T)) T (TB T))
section
variable {P:Program}{w:World}{K:PySem.W.Frag}{mg:Str->Option Value}{base:Heap}{N:List Str}{bX:Str}{scope:Scope}{f:Addr}{fC:Value}{A:Around}{outer:List Env}{s₀:Shared}{H₀:Hp}{E:XK}
theorem Rn (I:aI (jw (wC P w) P w K mg base N bX scope f fC A outer s₀ H₀ E) ah σ H s)(ha:∃ φ,H a=some (.ext φ))(Ta:T≠a)
  (Lf:LG (rT ((jw (wC P w) P w K mg base N bX scope f fC A outer s₀ H₀ E).env::outer)) a C t od s.heap h' T):
  Un (rT outer) [] H₀ (br (br H a (tD a C od T)) T (TB T)) s₀.heap h'/\nI P w (br (br H a (tD a C od T)) T (TB T)) h':=by
 obtain⟨φ,ha⟩:=ha;have hT:H T=none:=I.cg.fresh Lf.new
 have lt:∀b o,s₀.heap.get? b=some o->b<s₀.heap.objs.size:=λb o e=>zam e
 have sz:s₀.heap.objs.size<=s.heap.objs.size:=I.sz
 have bT:∀b o,s₀.heap.get? b=some o->b≠T:=λb o e=>zaq (zao (lt b o e) (zai sz Lf.new))
 have nf:∀b o,s₀.heap.get? b=some o->b∉rT outer->b∉rT ((jw (wC P w) P w K mg base N bX scope f fC A outer s₀ H₀ E).env::outer):=λb o e nb z=>by
  have z':b∈((jw (wC P w) P w K mg base N bX scope f fC A outer s₀ H₀ E).env::outer).filterMap (·.frame):=z
  rw[zcG] at z';have:b=s₀.heap.objs.size\/b∈rT outer:=by
   have z2:b∈s₀.heap.objs.size::outer.filterMap (·.frame):=z'
   exact zap.mp z2
  rcases this with q|q
  ·exact absurd (lt b o e) (by rw[q];exact zbc _)
  ·exact nb q
 have U:=I.base;refine⟨⟨λb o e n1 n2 n3=>?_,λb o e n1 n2 n3=>?_,λb o e n1 n2=>?_,λb o e n2=>?_,λb xs e=>?_,λb o u e=>?_,λb ps e=>?_⟩,λb u e=>?_⟩
 ·have e1:=U.keep b o e n1 n2 n3
  have nb:b≠a:=λz=>by
   have:=U.free b o e n1 n3
   rw[z,ha] at this;cases this
  exact Lf.keep b o e1 nb (nf b o e n2)
 ·obtain⟨sl,e1⟩:=U.slot b o e n1 n2 n3
  have nb:b≠a:=λz=>by
   have:=U.free b o e n1 n3
   rw[z,ha] at this;cases this
  obtain⟨Dw,e2⟩:=Lf.slot b _ e1 nb;exact⟨Dw,e2⟩
 ·have e1:=U.free b o e n1 n2
  have nb:b≠a:=λz=>by rw[z,ha] at e1;cases e1
  rw[aq (bT b o e),aq nb];exact e1
 ·obtain⟨o',e1⟩:=U.there b o e n2
  by_cases z:b=a
  ·rw[z];exact⟨_,Lf.lC⟩
  ·obtain⟨sl,e2⟩:=Lf.slot b o' e1 z
   exact⟨_,e2⟩
 ·have e1:=U.wc b xs e
  have nb:b≠a:=λz=>by rw[z,ha] at e1;cases e1
  have nT:b≠T:=λz=>by rw[z,hT] at e1;cases e1
  rw[aq nT,aq nb];exact e1
 ·have e1:=U.sE b o u e
  have nb:b≠a:=λz=>by rw[z,ha] at e1;cases e1
  have nT:b≠T:=λz=>by rw[z,hT] at e1;cases e1
  rw[aq nT,aq nb];exact e1
 ·obtain⟨iu,e1⟩:=U.we b ps e
  have nb:b≠a:=λz=>by rw[z,ha] at e1;cases e1
  have nT:b≠T:=λz=>by rw[z,hT] at e1;cases e1
  exact⟨iu,by rw[aq nT,aq nb];exact e1⟩
 ·by_cases zT:b=T
  ·subst zT
   rw[av] at e;cases e;exact F2 Lf.tb
  ·rw[aq zT] at e
   by_cases za:b=a
   ·subst za
    rw[av] at e;cases e;exact LH Lf.lC
   ·rw[aq za] at e
    have free:∀c,c∈rT ((jw (wC P w) P w K mg base N bX scope f fC A outer s₀ H₀ E).env::outer)->H c=none:=λc hc=>I.AK.Ks c hc
    refine (I.cg b u e).rB (λc v hc q=>?_) (λc hc=>?_) (λc xs hc=>?_)
    ·have hcn:∃uu,H c=some uu/\c≠a:=by
      rcases hc with z|z
      ·exact⟨u,by rw[z];exact e,by rw[z];exact za⟩
      ·exact⟨_,z,λq=>by rw[q,ha] at z;cases z⟩
     obtain⟨uu,h1,h2⟩:=hcn;refine Lf.keep c v q h2 λz=>?_
     rw[free c z] at h1;cases h1
    ·have nb:c≠a:=λz=>by rw[z,ha] at hc;cases hc
     have nT:c≠T:=λz=>by rw[z,hT] at hc;cases hc
     rw[aq nT,aq nb];exact hc
    ·have nb:c≠a:=λz=>by rw[z,ha] at hc;cases hc
     have nT:c≠T:=λz=>by rw[z,hT] at hc;cases hc
     rw[aq nT,aq nb];exact hc
theorem LI (he:PE (jw (wC P w) P w K mg base N bX scope f fC A outer s₀ H₀ E) ex te):
  PS (jw (wC P w) P w K mg base N bX scope f fC A outer s₀ H₀ E) (.Raise (some ex) none pos) (ZM K E te):=by
 intro ah s σ H D I h;rw[arm_exec_Raise];refine zaa (zcc (Iz (I.ok.hd rfl) ?_))
 refine zaa (zaQ (he ah s σ H _ I h) (λv s1 ⟨y,H1,I1,r,a,C,g,bm,od,ey,ha,Mk,q⟩=>zaa (zcc (zad ?_))) λ_ _ z=>z)
 subst ey;cases (show v=Value.ref a from r)
 obtain⟨nm,qn,N',bs,sn,sub,ab,sY,dd,k0,k1,k2,k3,k5,lk⟩:=Mk.lC;obtain⟨B,eb⟩:=Mk.nb;obtain⟨t,ea⟩:=Lv I1 ha;have hb:bm.contains (.type "BaseException")=true:=by
  rw[eb,zbC];have:rW.contains (.type "BaseException")=true:=by decide +kernel
  rw[this,zcQ]
 refine⟨a,t,od,nm,qn,C,N',bs,bm,true,sn,sub,ab,sY,dd,k0,k1,k2,k3,k5,"ValueError.__new__",rfl,hb,I1.kj _ _ lk,ea,?_⟩
 refine A0 (base:=base) (env:=(jw (wC P w) P w K mg base N bX scope f fC A outer s₀ H₀ E).env) (outer:=outer) I1.ok.frames I1.AK.lN rfl (show s1.heap.get? a=some (lD C od t .none) from ea) λh' T Lf=>?_
 have Ta:T≠a:=zbS (zao (zam ea) Lf.new)
 obtain⟨un,cg⟩:=Rn I1 ⟨_,ha⟩ Ta Lf
 exact⟨a,T,C,od,_,rfl,I1.os,I1.iR,un,cg,by rw[aq Ta.symm];exact av,av,Ta,q T (I1.cg.fresh Lf.new) Ta⟩
theorem J_.okX {st:Stmt}(F:J_ K x bX st f fd)(S:au N ps (ak st))(len:∀vs H Q E,sp vs H Q E->vs.length=ps.length)
  (sQ:∀(fC:Value) (A:Around) (outer:List Env) (s:Shared) (H:Hp) (vs:List V) (Q:VK) (E:XK),gP k (A.deeper (envOfC bX (ak st) s.heap.objs.size f fC))->sp vs H Q E ->
   ∃t,wg (jw (wC P w) P w K mg base N bX (ak st) f fC A outer s H E) (cR st) t/\t {nx:=λ_ H'=>Q .bw H',rt:=Q} (cV N vs) H):aO P w K mg base (wC P w) (k+1) f fd ps sp:=by
 obtain⟨oc,od,kV,nW,pm,an,fC,ct,Du,rfl,lk,AG⟩:=F.ex;exact K1 lk AG S len λA outer s H vs Q E hr J8=>sQ fC A outer s H vs Q E hr J8
end
theorem aI.LJ (I:aI X ah σ H s)(ha:H a=some (tD a C od T))(hT:H T=some (TB T))(Ta:T≠a)(Ta':T'≠a)(k1:∀b o,b≠T->s.heap.get? b=some o->h1.get? b=some o)(tb1:wB h1 T)(z1:h1.objs.size=s.heap.objs.size)
  (Lf:LG (rT X.cY) a C t od h1 h' T'):aI X ah σ (br (br H a (tD a C od T')) T' (TB T')) {s with heap:=h' }:=by
 have nT':H T'=none:=I.cg.fresh (by rw[<-z1];exact Lf.new)
 have free:∀c,c∈rT X.cY->H c=none:=λc hc=>I.AK.Ks c hc
 have TS:T∉rT X.cY:=λz=>by rw[free T z] at hT;cases hT
 have aS:a∉rT X.cY:=λz=>by rw[free a z] at ha;cases ha
 have bT':∀b o,s.heap.get? b=some o->b≠T':=λb o e=>zaq (zao (zam e) (by rw[<-z1];exact Lf.new))
 have ne:∀{b},H b=none->b≠a/\b≠T:=λ{b} n=>⟨λz=>(by rw[z,ha] at n;cases n),λz=>(by rw[z,hT] at n;cases n)⟩
 have tb':wB h' T:=by
  obtain⟨oT,ts,e1,e2,e3⟩:=tb1;exact⟨oT,ts,Lf.keep T oT e1 Ta TS,e2,e3⟩
 have ex:∀{b u},H b=some u->(∀ φ,u ≠ .ext φ)->br (br H a (tD a C od T')) T' (TB T') b=some u:=λ{b u} e n=>by
  have nb:b≠a:=λz=>by rw[z,ha] at e;exact n _ (zas e).symm
  have nt:b≠T':=λz=>by rw[z,nT'] at e;cases e
  rw[aq nt,aq nb];exact e
 refine I.FD (s':={s with heap:=h' }) (ch:=[]) rfl ⟨λb o e n1 n2 n3=>?_,λb o e n1 n2 n3=>?_,λb o e n1 n2=>?_,λb o e n2=>?_,λb xs e=>ex e (λφ z=>by cases z),λb o u e=>ex e (λφ z=>by cases z),λb ps e=>⟨#[],by rw[ex e (λφ z=>by cases z)];simp⟩⟩ (λb u e=>?_) I.iR (λb z=>absurd z (by simp))
 ·exact Lf.keep b o (k1 b o (ne n1).2 e) (ne n1).1 n2
 ·exact Lf.slot b o (k1 b o (ne n1).2 e) (ne n1).1
 ·rw[aq (bT' b o e),aq (ne n1).1]
  exact n1
 ·by_cases za:b=a
  ·rw[za];exact⟨_,Lf.lC⟩
  ·by_cases zT:b=T
   ·rw[zT]
    obtain⟨oT,ts,e1,_⟩:=tb';exact⟨oT,e1⟩
   ·obtain⟨sl,e2⟩:=Lf.slot b o (k1 b o zT e) za
    exact⟨_,e2⟩
 ·by_cases zT':b=T'
  ·subst zT'
   rw[av] at e;cases e;exact F2 Lf.tb
  ·rw[aq zT'] at e
   by_cases za:b=a
   ·subst za
    rw[av] at e;cases e;exact LH Lf.lC
   ·rw[aq za] at e
    by_cases zT:b=T
    ·subst zT
     rw[hT] at e;cases e;exact F2 tb'
    ·refine (I.cg b u e).rB (λc v hc q=>?_) (λc hc=>ex hc (λφ z=>by cases z)) (λc xs hc=>ex hc (λφ z=>by cases z))
     have hcn:∃uu,H c=some uu/\c≠a/\c≠T:=by
      rcases hc with z|z
      ·exact⟨u,by rw[z];exact e,by rw[z];exact za,by rw[z];exact zT⟩
      ·exact⟨_,z,λq=>(by rw[q,ha] at z;cases z),λq=>(by rw[q,hT] at z;cases z)⟩
     obtain⟨uu,g1,g2,g3⟩:=hcn;exact Lf.keep c v (k1 c v g3 q) g2 λz=>by rw[free c z] at g1;cases g1
noncomputable def Cx.mz (X:Cx)(a:Addr):Cx:={X with A:=X.A.mark (some (.ref a)),fM:=false}
theorem aI.mz (I:aI X ah σ H s)(a:Addr):aI (X.mz a) ah σ H s:=
 ⟨⟨I.ok.sG,I.ok.kind,I.ok.sF,I.ok.UG,I.ok.above,I.ok.inj,I.ok.has,I.ok.Yo,λh=>absurd (show false=true from h) zag,I.ok.frames,I.ok.stk,I.ok.exf,I.ok.bs,I.ok.PU,I.ok.jv,I.ok.C_,I.ok.lN,I.ok.Ks⟩,I.os,I.iR,I.base,I.AD,I.cell,I.free,I.lB,I.CU,I.cg,I.len⟩
theorem aI.o7 {a:Addr}(I:aI (X.mz a) ah σ H s)(hd:X.fM=true->X.A.handled=none):aI X ah σ H s:=
 ⟨⟨I.ok.sG,I.ok.kind,I.ok.sF,I.ok.UG,I.ok.above,I.ok.inj,I.ok.has,I.ok.Yo,hd,I.ok.frames,I.ok.stk,I.ok.exf,I.ok.bs,I.ok.PU,I.ok.jv,I.ok.C_,I.ok.lN,I.ok.Ks⟩,I.os,I.iR,I.base,I.AD,I.cell,I.free,I.lB,I.CU,I.cg,I.len⟩
section
variable {X:Cx}{k:Nat}{g B:Addr}{fd:FuncData}{ps:List Str}{sp:Sp}{e:Expr}{es:List Expr}{t:TA}{x y n fn cB:Str}{i j l:Nat}{xp p cp ap np yp np2 bp hp pos:Pos}
 {U0 q':Str} {N':Addr} {U1:List Value} {qR:Bool} {U3:List Str} {A1:List Value} {U4:Bool} {A2:Option Bool} {CY:Option Addr} {j0 j1 j2 j3 j5:Option Value} {mD:String}
end
end L2
namespace L2
open PySem PySem.Spec PyProof.Rows
theorem at0 {α:Type}{a:α}{xs:List α}:iS (a::xs) 0=some a:=eZ (j:=0) rfl
theorem at1 {α:Type}{a b:α}{xs:List α}:iS (a::b::xs) 1=some b:=eZ (j:=1) rfl
theorem at2 {α:Type}{a b c:α}{xs:List α}:iS (a::b::c::xs) 2=some c:=eZ (j:=2) rfl
theorem at3 {α:Type}{a b c d:α}{xs:List α}:iS (a::b::c::d::xs) 3=some d:=eZ (j:=3) rfl
theorem at4 {α:Type}{a b c d e:α}{xs:List α}:iS (a::b::c::d::e::xs) 4=some e:=eZ (j:=4) rfl
theorem at5 {α:Type}{a b c d e f:α}{xs:List α}:iS (a::b::c::d::e::f::xs) 5=some f:=eZ (j:=5) rfl
theorem at6 {α:Type}{a b c d e f g:α}{xs:List α}:iS (a::b::c::d::e::f::g::xs) 6=some g:=eZ (j:=6) rfl
theorem at7 {α:Type}{a b c d e f g h:α}{xs:List α}:iS (a::b::c::d::e::f::g::h::xs) 7=some h:=eZ (j:=7) rfl
theorem kH (ha:H a=none)(hb:H b=some x):br H a o b=some x:=by rw[aq (fF hb ha)];exact hb
noncomputable def age:V->V->V->Hp->(Hp->Prop)->Prop:=λo i v H Q=>∃p k,o = .ref p/\i = .int k/\match H p with
 |some (.aV xs)=>(match CZ xs.length k with|some j=>Q (br H p (.aV (xs.set j v)))|none=>False)
 |_=>False
theorem agf:YE X age:=by
 intro ah s σ H o i v ov iv u Q I ro ri rv h;obtain⟨p,k,rfl,rfl,h⟩:=h;cases e:H p with
 |none=>rw[e] at h;exact h.elim
 |some ob =>
  rw[e] at h;cases ob with
  |aV xs =>
   dsimp only at h
   cases e2:CZ xs.length k with
   |none=>rw[e2] at h;exact h.elim
   |some j=>rw[e2] at h;exact K_ ah s σ H _ _ v ov iv u Q I ro ri rv ⟨p,xs,k,j,rfl,rfl,e,e2,h⟩
  |_=>exact h.elim
noncomputable abbrev Ev:=St->Hp->Option V
section
variable {X:Cx}{a b c:Expr}{ea eb ec:Ev}{pos agg:Pos}
variable {cX:List Expr}
end
theorem LK (hc:X.fM=true):ja X (.builtin "sum") (λxs H Q=>∃(l:Addr) (ns:List Int),xs=[.ref l]/\i6 X.K H l (ns.map V.int)/\Q (.int ns.sum) H):=by
 intro ah s σ H xs us Q I r h;obtain⟨l,ns,rfl,hl,q⟩:=h;obtain⟨u,rfl,ru⟩:=lX r;cases ru;obtain⟨aH,r2,pl,_⟩:=I.list hl;have hi:=DA r2;obtain⟨ys,e⟩:=hi.allInts.items;have e2:numsOf aH=ns:=hi.numsOf
 have U5:=pl.isList;rw[e] at U5;refine sum_intListG (I.ok.hd hc) U5 λh' tk t' kp=>⟨.int ns.sum,H,I.gz kp,⟨t',?_⟩,q⟩
 have e3:numsOf (intItems ys).toList=ns:=by rw[<-e];exact e2
 rw[nums_intItems] at e3;rw[preSum_eq,zby (by simp),e3]
inductive DV where
 |fl (v:V)
 |tp (l:List DV)
 |ls (l:List DV)
mutual
noncomputable def iz (K:PySem.W.Frag)(H:Hp):DV->V->Prop
 |.fl w,v=>v=w/\fQ w=true
 |.tp l,v=>∃a xs,v = .ref a/\oM K H a xs/\jY K H l xs
 |.ls l,v=>∃a xs,v = .ref a/\i6 K H a xs/\jY K H l xs
noncomputable def jY (K:PySem.W.Frag)(H:Hp):List DV->List V->Prop
 |[],xs=>xs=[]
 |d::l,xs=>∃x r,xs=x::r/\iz K H d x/\jY K H l r
end
mutual
noncomputable def DV.xA:DV->Nat
 |.fl _=>0
 |.tp l=>DV.A3 l+1
 |.ls l=>DV.A3 l+1
noncomputable def DV.A3:List DV->Nat
 |[]=>0
 |d::l=>max (DV.xA d) (DV.A3 l)
end
theorem LL (h:fQ w=true):qP w w=true:=by
 cases w with
 |bw=>rfl
 |bl b=>simp[qP]
 |int i=>simp[qP]
 |str z=>simp[qP]
 |_=>exact absurd (show false=true from h) zag
theorem dW (n:Nat):(List.range n).all (λ_=>true)=true:=by simp
mutual
theorem IA (I:aI X ah σ H s):∀(d:DV) (A:Around) (x y:V) (v u:Value),iz X.K H d x->iz X.K H d y->bG x v->bG y u->A.units+d.xA<cLine->SeqAt.EqAt A s v u true
 |.fl w,A,x,y,v,u,hx,hy,rx,ry,_=>by
  unfold iz at hx hy;obtain⟨rfl,fw⟩:=hx;obtain⟨rfl,_⟩:=hy;have h:=yW (A:=A) (s:=s) rx ry fw fw
  rw[LL fw] at h;exact h
 |.tp l,A,x,y,v,u,hx,hy,rx,ry,hd=>by
  unfold iz at hx hy;obtain⟨a,xs,rfl,sx,dx⟩:=hx;obtain⟨b,ys,rfl,sy,dy⟩:=hy;cases rx;cases ry;obtain⟨aH,r1,p1,_⟩:=I.fD sx;obtain⟨dZ,r2,p2,_⟩:=I.fD sy;unfold DV.xA at hd;obtain⟨hl,he⟩:=gm I l A.in1 xs ys aH dZ dx dy r1 r2 (by show A.units+1+_<_;omega)
  by_cases hab:a=b
  ·subst hab;exact zeh _
  ·refine zeU hab ?_
   have h:=SeqAt.RcAt.tuples (A:=A) (e:=λ_=>true) p1 p2 (by omega) λj h1 h2=>he j _ _ (by simpa using zac (by simpa using h1)) (by simpa using zac (by simpa using h2))
   rw[dW,show (aH.toArray.size == dZ.toArray.size)=true by simpa using hl] at h
   exact h
 |.ls l,A,x,y,v,u,hx,hy,rx,ry,hd=>by
  unfold iz at hx hy;obtain⟨a,xs,rfl,sx,dx⟩:=hx;obtain⟨b,ys,rfl,sy,dy⟩:=hy;cases rx;cases ry;obtain⟨aH,r1,p1,_⟩:=I.list sx;obtain⟨dZ,r2,p2,_⟩:=I.list sy;unfold DV.xA at hd;obtain⟨hl,he⟩:=gm I l A.in1 xs ys aH dZ dx dy r1 r2 (by show A.units+1+_<_;omega)
  by_cases hab:a=b
  ·subst hab;exact zeh _
  ·refine zeU hab ?_
   have h:=SeqAt.RcAt.lists (A:=A) (e:=λ_=>true) p1.isList p2.isList (by simpa using hl) (by omega) λj h1 h2=>he j _ _ (by simpa using zac (by simpa using h1)) (by simpa using zac (by simpa using h2))
   rw[dW] at h;exact h
theorem gm (I:aI X ah σ H s):∀(l:List DV) (A:Around) (xs ys:List V) (us ws:List Value),jY X.K H l xs->jY X.K H l ys->bz xs us->bz ys ws->A.units+DV.A3 l<cLine ->
  us.length=ws.length/\∀(j:Nat) (u w:Value),us[j]? = some u->ws[j]? = some w->SeqAt.EqAt A s u w true
 |[],A,xs,ys,us,ws,hx,hy,rx,ry,_=>by
  unfold jY at hx hy;subst hx hy;cases rx;cases ry;exact⟨rfl,λj u w h=>by simp at h⟩
 |d::l,A,xs,ys,us,ws,hx,hy,rx,ry,hd=>by
  unfold jY at hx hy;obtain⟨x,r,rfl,dx,dr⟩:=hx;obtain⟨y,r',rfl,dy,dr'⟩:=hy;cases rx with
  |cons r1 t1 =>
   cases ry with
   |cons r2 t2 =>
    unfold DV.A3 at hd;obtain⟨hl,he⟩:=gm I l A r r' _ _ dr dr' t1 t2 (by omega)
    refine⟨by simp[hl],λj u w h1 h2=>?_⟩
    cases j with
    |zero =>
     simp only[zaW,zbL] at h1 h2;subst h1 h2;exact IA I d A x y _ _ dx dy r1 r2 (by omega)
    |succ j =>
     simp only[zaE] at h1 h2;exact he j u w h1 h2
end
noncomputable def agi (K:PySem.W.Frag)(neg:Bool):R2:=λx y H Q=>∃d:DV,DV.xA d<=50/\(∀w,d ≠ .fl w)/\iz K H d x/\iz K H d y/\Q (.bl (!neg)) H
theorem ZN (hu:X.A.units+100<cLine):jQ X (compareOp .Eq) (agi X.K false):=by
 intro ah s σ H x y v u Q I rx ry h;obtain⟨d,hd,hn,dx,dy,q⟩:=h;have fL:EP X ah σ Q (.bool true) s:=⟨.bl true,H,I,rfl,q⟩
 cases d with
 |fl w=>exact absurd rfl (hn w)
 |tp l =>
  unfold iz at dx dy;obtain⟨a,xs,rfl,sx,dx⟩:=dx;obtain⟨b,ys,rfl,sy,dy⟩:=dy;cases rx;cases ry;obtain⟨aH,r1,p1,_⟩:=I.fD sx;obtain⟨dZ,r2,p2,_⟩:=I.fD sy;unfold DV.xA at hd;obtain⟨hl,he⟩:=gm I l X.A.in1 xs ys aH dZ dx dy r1 r2 (by show X.A.units+1+_<_;omega)
  refine SeqAt.eq_tupleAt (e:=λ_=>true) p1 p2 (by omega) (λj h1 h2=>he j _ _ (by simpa using zac (by simpa using h1)) (by simpa using zac (by simpa using h2))) ?_
  rw[dW,show (aH.toArray.size == dZ.toArray.size)=true by simpa using hl]
  exact fL
 |ls l =>
  unfold iz at dx dy;obtain⟨a,xs,rfl,sx,dx⟩:=dx;obtain⟨b,ys,rfl,sy,dy⟩:=dy;cases rx;cases ry;obtain⟨aH,r1,p1,_⟩:=I.list sx;obtain⟨dZ,r2,p2,_⟩:=I.list sy;unfold DV.xA at hd;obtain⟨hl,he⟩:=gm I l X.A.in1 xs ys aH dZ dx dy r1 r2 (by show X.A.units+1+_<_;omega)
  refine SeqAt.eq_listAt (e:=λ_=>true) p1.isList p2.isList (by simpa using hl) (by omega) (λj h1 h2=>he j _ _ (by simpa using zac (by simpa using h1)) (by simpa using zac (by simpa using h2))) ?_
  rw[dW];exact fL
theorem ZO (hu:X.A.units+100<cLine):jQ X (compareOp .NotEq) (agi X.K true):=by
 intro ah s σ H x y v u Q I rx ry h;obtain⟨d,hd,hn,dx,dy,q⟩:=h;have fL:EP X ah σ Q (.bool false) s:=⟨.bl false,H,I,rfl,q⟩
 cases d with
 |fl w=>exact absurd rfl (hn w)
 |tp l =>
  unfold iz at dx dy;obtain⟨a,xs,rfl,sx,dx⟩:=dx;obtain⟨b,ys,rfl,sy,dy⟩:=dy;cases rx;cases ry;obtain⟨aH,r1,p1,_⟩:=I.fD sx;obtain⟨dZ,r2,p2,_⟩:=I.fD sy;unfold DV.xA at hd;obtain⟨hl,he⟩:=gm I l X.A.in1 xs ys aH dZ dx dy r1 r2 (by show X.A.units+1+_<_;omega)
  have h:=SeqAt.RcNeAt.tuples (e:=λ_=>true) p1 p2 (show X.A.units<cLine by omega) λj h1 h2=>he j _ _ (by simpa using zac (by simpa using h1)) (by simpa using zac (by simpa using h2))
  rw[dW,show (aH.toArray.size == dZ.toArray.size)=true by simpa using hl] at h
  exact h X.prog X.w _ _ fL
 |ls l =>
  unfold iz at dx dy;obtain⟨a,xs,rfl,sx,dx⟩:=dx;obtain⟨b,ys,rfl,sy,dy⟩:=dy;cases rx;cases ry;obtain⟨aH,r1,p1,_⟩:=I.list sx;obtain⟨dZ,r2,p2,_⟩:=I.list sy;unfold DV.xA at hd;obtain⟨hl,he⟩:=gm I l X.A.in1 xs ys aH dZ dx dy r1 r2 (by show X.A.units+1+_<_;omega)
  have h:=SeqAt.RcNeAt.lists (e:=λ_=>true) p1.isList p2.isList (by simpa using hl) (show X.A.units<cLine by omega) λj h1 h2=>he j _ _ (by simpa using zac (by simpa using h1)) (by simpa using zac (by simpa using h2))
  rw[dW] at h;exact h X.prog X.w _ _ fL
end L2
namespace L2
open PySem PySem.Spec PyProof.Rows
end L2
namespace L2
open PySem PySem.Spec PyProof.Rows
end L2
namespace My
open PySem L2
end My
namespace My
open PySem L2
end My
namespace L2
open PySem
theorem LM (hc:X.fM=true):ja X (.builtin "any") (λxs H Q=>∃(l:Addr) (bs:List Bool),xs=[.ref l]/\H l=some (.aV (bs.map V.bl))/\Q (.bl (bs.any id)) H):=by
 intro ah s σ H xs us Q I r h;obtain⟨l,bs,rfl,hl,q⟩:=h;obtain⟨u,rfl,ru⟩:=lX r;cases ru;obtain⟨aH,n,rv,e,_⟩:=I.aV hl;have agj:s.heap.IsList l aH.toArray:=⟨_,e,rfl,n,rfl⟩
 refine call_any_walk (zce agj ?_)
 have qj:l≠s.heap.objs.size:=zaq (zam e)
 have cJ:aH.length=bs.length:=by rw[<-rv.length];simp
 refine⟨s.heap.objs.size,_,_,_,_,_,λi=>bs[i]?.getD true,rfl,Walks.list (by exact I.ok.hd hc) s.heap.objs.size l qj aH.toArray,⟨⟨_,zan _ rfl,rfl,rfl⟩,⟨_,zab _ e,rfl,n,rfl⟩⟩,?_,?_⟩
 ·intro i v s' Q' E' hv hq
  have hv:aH[i]? = some v:=by simpa using hv
  have hi:i<bs.length:=by rw[<-cJ];exact (zae.mp hv).1
  obtain⟨u,hu,ru⟩:=rv.get (i:=i) (x:=V.bl bs[i]) (by simp[hi])
  rw[hv] at hu;have e1:v=u:=zas hu
  subst e1;cases (show v=Value.bool bs[i] from ru)
  refine zbb ?_
  have e2:bs[i]?.getD true=bs[i]:=by simp[hi]
  have hq:Q' (bs[i]?.getD true) s':=hq
  rw[e2] at hq;exact hq
 ·intro h' tk hk
  refine⟨.bl (bs.any id),H,I.gz λb o e'=>hk b o (by simp;exact zaq (zam e')) (zab _ e'),?_,q⟩
  show Value.bool _=Value.bool _
  congr 1
  rw[zal,cJ];rw[zaK,zdc,zdc];constructor
  ·rintro⟨i,hi,hb⟩
   have hi:=zci.mp hi;rw[zac hi] at hb;exact⟨_,zbA hi,hb⟩
  ·rintro⟨b,hb,hbt⟩
   obtain⟨i,hi,e⟩:=zch.mp hb;refine⟨i,zci.mpr hi,?_⟩
   rw[zac hi,Option.getD_some,e];exact hbt
section
variable {α:Type}{H H':Hp}{o:α -> HO}{as:List Addr}{xs:List α}
end
end L2
namespace L2
open PySem PySem.Spec PyProof.Rows
theorem A4 (hd:(d == sysModules)=false)(ho:s.heap.get? d=some o)(hc:o.ExactDict)(A5:o.data = .dict es ep)
  (hQ:Q (.ref s.heap.objs.size) { s with heap:=s.heap.push { cls:=.type "dict_keyiterator",data:=.fields #[.ref d,.int 0 0,.int es.size 0,.int ep 0]} }):wpAny (model prog w) A (pyIter (.ref d)) Q E s:=by
 have hT:s.TypeIs (.ref d) "dict" := ⟨o,ho,hc.1⟩
 refine wpAny_pyIter_slot hT F.slot_dict_iter (zaY F.slot_dict_iter hT F.entry_dict_iter ?_ (F.args_dict_iter_1 _))
 unfold Builtin.«dict.__iter__» Builtin.Dict.dictSlotNone
 refine zaa (zaa (wpAny_notOrdered_dict hT (zad (?_:wpAny _ _ (Builtin.Dict.showsAll d >>= _) _ _ s))))
 unfold Builtin.Dict.showsAll;rw[if_neg (by rw[hd];exact zag)]
 refine zaa (zad (zaa (zdN ho A5 (zaa (zej ho A5 (zaa (zaO (zad ⟨_,rfl,"dict_keyiterator",_,⟨_,zan _ rfl,rfl⟩,zbv.lookup,?_⟩)))))))) 
 simpa[rawInt] using hQ
theorem LN (C4:s.heap.IsKeyIter it d i es.size ep)(rC:s.heap.get? d=some o)(A5:o.data = .dict es ep)(jR:i<es.size)
  (hQ:∀h',h'.IsKeyIter it d (i+1) es.size ep->Heap.SameBut it s.heap h'->Q (some es[i].key) {s with heap:=h' }):wpAny (model prog w) A (pyNext (.ref it)) Q E s:=by
 obtain⟨oi,hoi,hci,ZP⟩:=id C4;unfold pyNext;refine zaa (zda (zaN (name:=Str.ofString "__next__") C4.typeIs zbv
  (zaY zbv C4.typeIs zdq (zaa (zad (zaa (zaa ?_)))) (zdm _))))
 first|refine zaa (zbM C4.typeIs (zad ?_))|refine zaa (dM C4.typeIs (zad ?_))
 refine zaa (wpAny_fieldsOf hoi ZP ?_)
 simp only[(by decide:Builtin.Dict_items.ownsTuple "dict_keyiterator"=false),zbp,if_false]
 show wpAny _ _ (if (Value.ref d == Value.none)=true then _ else _) _ _ s
 rw[if_neg (show ¬ ((Value.ref d == Value.none)=true) from zag)];refine zaa (zad (zaa (zdN rC A5 ?_)))
 rw[if_neg (by simp)]
 refine zaa (zad (zaa (zej rC A5 ?_)))
 rw[if_neg (by simp)]
 refine zad ?_
 simp only[show ¬ ((i:Int)<0) from by omega,if_false,zbm,zdQ jR]
 refine zaa ?_
 first|refine zaa (zbM C4.typeIs (zad ?_))|refine zaa (dM C4.typeIs (zad ?_))
 refine zaa (wpAny_isOneOf_keyiter C4.typeIs (?_:wpAny _ _ (setField (.ref it) 1 (rawInt ((i:Int)+1)) >>= _) _ _ s))
 refine zaa (zbO hoi ZP (by simp) ?_)
 have agk:(s.heap.update it (Obj.mapFields (·.setIfInBounds 1 (rawInt ((i:Int)+1))))).IsKeyIter it d (i+1) es.size ep:=
  ⟨_,zaU _ hoi (zcD (zbq ZP _)),(Obj.cls_mapFields ..).trans hci,by rw[zbq ZP];simp[rawInt]⟩
 refine zaa (zaD (zaa (wpAny_isOneOf_keyiter (s:={s with heap:=s.heap.update it (Obj.mapFields (·.setIfInBounds 1 (rawInt ((i:Int)+1))))}) agk.typeIs (?_:wpAny _ _ (pure es[i].key) _ _ _))))
 exact zad (zad ⟨_,rfl,zad (hQ _ agk (zco ..))⟩)
theorem LO (hh:A.handled=none)(C4:s.heap.IsKeyIter it d i es.size ep)(rC:s.heap.get? d=some o)(A5:o.data = .dict es ep)(hge:es.size<=i)
  (hQ:∀h',Heap.ExtBut it s.heap h'->Q none {s with heap:=h' }):wpAny (model prog w) A (pyNext (.ref it)) Q E s:=by
 obtain⟨oi,hoi,hci,ZP⟩:=id C4;unfold pyNext;refine zaa (zda (zaN (name:=Str.ofString "__next__") C4.typeIs zbv
  (zaY zbv C4.typeIs zdq (zaa (zad (zaa (zaa ?_)))) (zdm _))))
 first|refine zaa (zbM C4.typeIs (zad ?_))|refine zaa (dM C4.typeIs (zad ?_))
 refine zaa (wpAny_fieldsOf hoi ZP ?_)
 simp only[(by decide:Builtin.Dict_items.ownsTuple "dict_keyiterator"=false),zbp,if_false]
 show wpAny _ _ (if (Value.ref d == Value.none)=true then _ else _) _ _ s
 rw[if_neg (show ¬ ((Value.ref d == Value.none)=true) from zag)];refine zaa (zad (zaa (zdN rC A5 ?_)))
 rw[if_neg (by simp)]
 refine zaa (zad (zaa (zej rC A5 ?_)))
 rw[if_neg (by simp)]
 refine zad ?_
 simp only[show ¬ ((i:Int)<0) from by omega,if_false,zbm,Array.getElem?_eq_none hge]
 refine zaa ?_
 first|refine zaa (zbM C4.typeIs (zad ?_))|refine zaa (dM C4.typeIs (zad ?_))
 show wpAny _ _ (setField (.ref it) 0 .none >>= _) _ _ s
 refine zaa (zbO hoi ZP (by simp) (?_:wpAny _ _ (newExc (.type "StopIteration") [] >>= _) _ _ _))
 refine zaa ?_
 simp only[newExc,newTuple];refine zaa (zaO ?_ (by size_fits))
 refine zaa (m:=firstArgMember _ _) (wpAny_of_eq (a:=Value.none) (by first|rfl | (simp only[firstArgMember];rfl)) ?_)
 refine zaO ?_ (by size_fits)
 simp only[raiseNew];refine zaa (wpAny_handled ?_)
 rw[show A.in1.handled=none from hh];refine zaa (zad (wpAny_throw ?_))
 refine zaa (zdZ (T:= "StopIteration") (b:=true) ⟨_,zan _ rfl,rfl⟩ zew ?_)
 exact zad (hQ _ (((zco ..).extBut.push _).push _))
noncomputable def Itd (a:Addr)(o:Obj)(u:HO)(ks:List V):It:=⟨λi H=>H a=some (.p_ o u)/\i<ks.length,λi H x H'=>H'=H/\ks[i]? = some x,λi H=>H a=some (.p_ o u)/\ks.length<=i⟩
theorem xB {K:W.Frag}(a it:Addr)(hc:o.ExactDict)(hd:o.data = .dict es ep)(hn:es.size=ks.length)(hk:∀i (h:i<es.size) x,ks[i]? = some x->bG x es[i].key):
  HM P w K tg (Itd a o u ks) [it] it (λi h=>h.IsKeyIter it a i es.size ep) where
 mem:=by simp
 lC:=λi h st b hb=>by
  have e:b=it:=by simpa using hb
  subst e;obtain⟨o,e,c,d⟩:=st;exact⟨o,e,λv z=>by rw[d] at z;cases z⟩
 keep:=λi h h' st k=>st.at λo e=>k it (by simp) o e
 item:=by
  intro X hP hw hK hcm i ah s σ H E I hf st hg;subst hP hw hK;obtain⟨ha,hi⟩:=hg;obtain⟨ho,_⟩:=(show bY X.prog X.w H s.heap a (.p_ o u) from I.cg a _ ha)
  obtain⟨f0,f1,f2,f3,f4,f5⟩:=hf it (by simp)
  have nK:i<es.size:=by omega
  refine LN st ho hd nK λh' KG sb=>?_
  have I1:aI X ah σ H {s with heap:=h' }:=I.nU (t':=s.toks) (λb o hb e=>(sb.2 b hb).trans e) f0 f1 f3 f4 f5
  obtain⟨oi,e,c,d⟩:=id KG;exact⟨_,rfl,KD (s:={s with heap:=h' }) e c d (by decide) ⟨ks[i],H,I1,hk i nK _ (zac hi),⟨rfl,zac hi⟩,KG,λb hb=>(hf b hb).1⟩⟩
 done:=by
  intro X hP hw hK hcm i ah s σ H E I hf st hg;subst hP hw hK;obtain⟨ha,hi⟩:=hg;obtain⟨ho,_⟩:=(show bY X.prog X.w H s.heap a (.p_ o u) from I.cg a _ ha)
  obtain⟨f0,f1,f2,f3,f4,f5⟩:=hf it (by simp)
  exact LO (I.ok.hd hcm) st ho hd (by omega) λh' eb=>⟨rfl,I.nU (t':=s.toks) (λb o hb e=>eb b o hb e) f0 f1 f3 f4 f5⟩
 self:=λ_ _ _ _ _ st h=>wpAny_pyIter_keyiter st h
theorem Ro (h:lV k v=true):bG (kV k) v:=by
 rcases cU h with⟨i,t,rfl,rfl⟩|⟨x,t,rfl,rfl⟩
 ·exact⟨t,rfl⟩
 ·exact⟨t,rfl⟩
theorem Paired.agl {α β γ:Type}{F:α -> β -> Prop}{G:α -> γ -> Prop}{f:β -> γ}(h:∀a b,F a b->G a (f b)):∀{l:List α} {m:List β},Paired F l m->Paired G l (m.map f)
 |_,_,.nil=>.nil
 |_,_,.cons r t=>.cons (h _ _ r) (Paired.agl h t)
noncomputable def LP (H:Hp)(u:HO)(ks:List V):Prop:=match u with
 |.dK aJ=>ks=aJ.map λp=>kV p.1
 |.dT aJ=>Paired (λ(p:List dz×V) (x:V)=>∃b,x = .ref b/\H b=some (.gp (p.1.map kV))) aJ ks
 |_=>False
noncomputable def F3:HO->Prop|.dK _=>True|.dT _=>True|_=>False
theorem F4 {P:Program}{w:World}{H:Hp}(hu:F3 u)(x:bY P w H h a u):(a == sysModules)=false/\∃o ks es ep,h.get? a=some o/\LP H u ks/\o.ExactDict/\o.data = .dict es ep/\es.size=ks.length/\∀i (h:i<es.size) x,ks[i]? = some x->bG x es[i].key:=by
 cases u with
 |dK aJ =>
  obtain⟨_,hs,vs,kv,o,es,ep,ho,hc,hd,hk,hp,hn⟩:=x;have hl:=hp.length;have kl:=kv.length;have kk:=kv.qb;refine⟨hs,o,_,es,ep,ho,rfl,hc,hd,by rw[zaf,kl,<-hl];simp,λi hi y hy=>?_⟩
  rw[zar] at hy;have hiv:i<vs.length:=by rw[<-hl];simpa using hi
  have e1:(aJ.map (·.1))[i]? = (vs.map (·.1))[i]?:= by rw[kk]
  rw[zar,zar,zac hiv] at e1;rw[zac (by omega)] at hy e1
  simp only[zbY,zbL] at hy e1
  have:=(hp.get? (i:=i) (e:=es[i]) (k:=vs[i].1) (v:=vs[i].2) (by simp[hi]) (by rw[zac hiv])).1
  rw[<-hy,e1];exact Ro this
 |dT aJ =>
  obtain⟨_,hs,xs,pr,o,es,ep,ho,hc,hd,he,hn⟩:=x;have hl:es.size=xs.length:=by have:=congrArg List.length he;simpa using this
  refine⟨hs,o,xs.map λq=>.ref q.2.1,es,ep,ho,?_,hc,hd,by rw[zaf,hl],λi hi y hy=>?_⟩
  ·show Paired _ aJ (xs.map λq=>V.ref q.2.1)
   exact Paired.agl (λp q h=>⟨_,rfl,h.2.1⟩) pr
  ·rw[zar,zac (by omega)] at hy
   simp only[zbY,zbL] at hy;have e1:es[i]=entryOfKey (tupleKind (bS P w)) (xs[i]'(by omega)):=by
    have:=entry_at he i
    rw[zdQ hi,zac (by omega)] at this
    simpa using this
   rw[<-hy,e1];rfl
 |_=>exact hu.elim
noncomputable def alA (tl:TE):TI:=λσ H R=>tl σ H λx H1=>∃a u,x = .ref a/\F3 u/\((H1 a=some u/\∀o ks,LP H1 u ks->R (Itd a o u ks) (br H1 a (.p_ o u)))\/∃o,H1 a=some (.p_ o u)/\∀ks,LP H1 u ks->R (Itd a o u ks) H1)
theorem Rp {l:Expr}{tl:TE}(hl:PE X l tl):PI X tg l (alA tl):=by
 intro ah s σ H R I h;refine cG (hl ah s σ H _ I h) λv s1 b9=>?_
 obtain⟨x,H1,I1,r1,q1⟩:=b9;obtain⟨a,u,e,hu,q⟩:=q1;subst e;cases r1;rcases q with⟨ha,q⟩|⟨o,ha,q⟩
 ·obtain⟨hs,o,ks,es,ep,ho,hk,hc,hd,hn,hr⟩:=F4 hu (I1.cg a u ha)
  refine A4 hs ho hc hd ?_
  have mu:Mut (H1 a):=by rw[ha];cases u<;>first|exact hu.elim|trivial
  have I2:aI X ah σ (br H1 a (.p_ o u)) { s1 with heap:=s1.heap.push { cls:=.type "dict_keyiterator",data:=.fields #[.ref a,.int 0 0,.int es.size 0,.int ep 0]} }:=I1.jy (t':=s1.toks) (x:=a) (e:=a) mu (.inl rfl) (λb v _ e=>zab _ e) ⟨o,zab _ ho⟩
   ⟨zab _ ho,(I1.cg a u ha).rB (λb v _ e=>zab _ e) (λb hb=>by rw[aq (λz=>by subst z;rw[ha] at hb;cases hb;exact hu.elim)];exact hb) λb xs hb=>by rw[aq (λz=>by subst z;rw[ha] at hb;cases hb;exact hu.elim)];exact hb⟩
  refine⟨s1.heap.objs.size,[s1.heap.objs.size],_,_,_,rfl,I2,xB a _ hc hd hn hr,⟨_,zan _ rfl,rfl,rfl⟩,λb hb=>?_,q o ks hk⟩
  have e:b=s1.heap.objs.size:=by simpa using hb
  subst e;exact I1.KC (zah _) (by rw[aq (λz=>absurd (I1.cg.lt ha) (by rw[<-z];exact zbc _))];exact I1.cg.fresh (zah _))
 ·have hob:=(show bY X.prog X.w H1 s1.heap a (.p_ o u) from I1.cg a _ ha)
  obtain⟨hs,o',ks,es,ep,ho,hk,hc,hd,hn,hr⟩:=F4 hu hob.2;have eo:o'=o:=by have:=hob.1;rw[ho] at this;exact zas this
  subst eo;refine A4 hs ho hc hd ?_
  refine⟨s1.heap.objs.size,[s1.heap.objs.size],_,_,H1,rfl,I1.gz (t':=s1.toks) λb o e=>zab _ e,xB a _ hc hd hn hr,⟨_,zan _ rfl,rfl,rfl⟩,λb hb=>?_,q ks hk⟩
  have e:b=s1.heap.objs.size:=by simpa using hb
  subst e;exact I1.KC (zah _) (I1.cg.fresh (zah _))
section
variable {X:Cx}{o:Expr}{lo:Option Expr}{to:TE}{tl:TO}{p2 pos:Pos}
end
theorem IB:typeLookup (.type "list") "keys"=pure none:=am_miss_of_fast (by decide +kernel)
theorem IC (hx:s.heap.get? a=some { cls:=.type "list",data:=.seq xs k})(hA:A.handled=none)
  (h:∀h' tk,(∀b o,s.heap.get? b=some o->h'.get? b=some o)->Q none {s with heap:=h',toks:=tk}):wpAny (model prog w) A (getAttr? (.ref a) "keys") Q E s:=by
 obtain⟨hp,g,d,tk,os⟩:=s;have hT:∀tk',(⟨hp,g,d,tk',os⟩:Shared).TypeIs (.ref a) "list" := λ_=>⟨_,hx,rfl⟩
 have f1:=sub_AttributeError;have f3:=zcR.lookup;have f4:=zcR.bind (.ref a)
 have f5:=am_list_getattr_none;unfold getAttr? getAttrBy? getAttrBy
 repeat (any_goals (first|assumption|exact hT _ | ((with_reducible show wpAny _ _ (call (Value.builtin "list.__getattribute__") _ _) _ _ _);refine zcV zcR (hT _) am_entry_list_getattribute (F.args_list_getattribute_2 _ _) (meets_getattribute_miss_list a xs k #[] _ _ IB (by decide +kernel)) ⟨hx,hA,λh' tk' e PY=>?_⟩)|wp_step))
 ·obtain⟨t',u',he⟩:=PY.there
  show wpAny _ _ (getattributeRaised _ _ _ _ _ _ _) _ _ _
  unfold getattributeRaised;repeat (any_goals (first|assumption|wp_step))
  exact h _ _ PY.keeps
theorem xC:entryFor table "dict.update.loop"=some Builtin.«dict.update.loop»:= entryFor_of_tree (by kernel_rfl)
theorem ng:plainId "dict.update.loop"=true:=by decide +kernel
noncomputable def tE (kv:Nat->dz×Value):Nat->List (dz×Value)
 |0=>[]
 |i+1=>stored (tE kv i) (kv i).1 (kv i).2
theorem DQ (l:List (dz×Value))(k:dz)(v:Value):(stored l k v).length<=l.length+1:=by
 unfold stored;split
 ·rw[zaf];omega
 ·simp
theorem zh (kv:Nat->dz×Value):∀i,(tE kv i).length<=i
 |0=>zah _
 |i+1=>zai (DQ _ _ _) (Nat.succ_le_succ (zh kv i))
section
variable {prog:Program}{w:World}{A:Around}{R:Result->Shared->Prop}{I:Addr}{fp wr:List Addr}{G:Array GenState->Array GenState->Prop}{n:Nat}{P:Nat->Value->Prop}{St:Nat->Shared->Prop}
theorem DictOf.gz {h h':Heap}(q:h.DictOf (bS prog w) S l)(k:∀o,h.get? S=some o->h'.get? S=some o):h'.DictOf (bS prog w) S l:=by
 obtain⟨o,es,ep,ho,cX⟩:=q;exact⟨o,es,ep,k o ho,cX⟩
noncomputable def ql (h:Heap)(a:Addr)(k x:Value):Prop:=∃o m,h.get? a=some o/\o.cls = .type "tuple" /\ o.data = .seq #[k,x] m
theorem ID (W:WalksS prog w A.in1 I fp wr G n P St)(S:Addr)(hSf:S∉fp)(ad:Nat->Addr)(kk:Nat->Value)(kv:Nat->dz×Value)(ZQ:∀i v,P i v->v = .ref (ad i))(KQ:∀i,i<n->lV (kv i).1 (kk i)=true)(hn:n<=1000)(had:∀i,i<n->ad i∉S::wr)(j:Nat):
  ∀(i:Nat) (t:Tok) (s:Shared),n=i+j->St i s->s.heap.DictOf (bS prog w) S (tE kv i)->(∀m,m<n->ql s.heap (ad m) (kk m) (kv m).2) ->
   (∀s',Moved (S::wr) G s s'->s'.heap.DictOf (bS prog w) S (tE kv n)->R (.ok (.ret .none)) s')->codeAny (model prog w) A (.builtin "dict.update.loop" ⟨[.ref S,.ref I,.int i t,.none],[]⟩) R s:=by
 have hSw:S∉wr:=λh=>hSf (W.sub _ h)
 induction j with
 |zero =>
  intro i t s hi qa hS hp hR;subst hi;refine zdn xC ?_
  rw[Around.under_plainId ng _];refine zaa (W.done s _ _ qa λs' hm=>?_)
  show wpAny _ _ (Builtin.Dict.addKeywords S [] >>= _) _ _ _
  exact zaa (zad (zad (hR s' (hm.mono λb hb=>zaP _ hb) (DictOf.gz hS λo ho=>hm.heap S o hSw ho))))
 |succ j ih =>
  intro i t s hi qa hS hp hR;refine zdn xC ?_
  rw[Around.under_plainId ng _];refine zaa (W.item i s _ _ (by omega) qa λv s' hP alB hm=>?_)
  have hv:=ZQ i v hP;subst hv;have hS':s'.heap.DictOf (bS prog w) S (tE kv i):=DictOf.gz hS λo ho=>hm.heap S o hSw ho
  have hp':∀m,m<n->ql s'.heap (ad m) (kk m) (kv m).2:=λm hmn=>by
   obtain⟨o,q,ho,cX⟩:=hp m hmn;exact⟨o,q,hm.heap _ o (λz=>had m hmn (zaP _ z)) ho,cX⟩
  obtain⟨o,q,ho,hc,hd⟩:=hp' i (by omega)
  have hT:s'.TypeIs (.ref (ad i)) "tuple" := ⟨o,ho,hc⟩
  refine zaa (zaD ?_)
  refine zaa (wpAny_tryCatch ?_)
  unfold Builtin.Dict.pairItems;refine zaa (zcO hT ?_)
  rw[if_pos (by decide)]
  unfold seqItems?
  refine zaa (zaa (wpAny_load ho ?_))
  rw[hd];refine zad (zad ?_)
  show wpAny _ _ (holding [kk i,(kv i).2] (dictSet S (kk i) (kv i).2)) _ _ _
  have hle:=zh kv i;refine zaD (wpAny_dictSet_pairs (KQ i (by omega)) hS' (λh' C5 UW=>?_) (zai (by omega:(tE kv i).length<=1000) (by decide)))
  refine zad ⟨plainId_quiet ng _,ih (i+1) _ _ (by omega) (W.frame _ s' _ _ alB (zbk _) λb hb o e=>?_) C5 (λm hmn=>?_) λs'' alD alE=>?_⟩
  ·rw[UW.2 b (λz:b=S=>hSf (by rw[<-z];exact hb))];exact e
  ·obtain⟨o2,q2,ho2,cX⟩:=hp' m hmn
   exact⟨o2,q2,by rw[UW.2 _ (λz=>had m hmn (by rw[z];exact zbR))];exact ho2,cX⟩
  ·refine hR s'' (Moved.trans W.gtrans ((hm.mono λb hb=>zaP _ hb).then_heap (zbk _) λb o hb e=>?_) alD) alE
   rw[UW.2 b (λz:b=S=>hb (by rw[z];exact zbR))];exact e
end
section
variable {prog:Program}{w:World}{A:Around}{E:Value->Shared->Prop}{s:Shared}
theorem rH {l:Addr}{ad:Nat->Addr}{kk:Nat->Value}(hh:A.handled=none)(hol:s.heap.get? l=some { cls:=.type "list",data:=.seq items nl})
  (ZQ:∀i v,items[i]? = some v->v=Value.ref (ad i)) (KQ:∀i,i<items.size->lV (kv i).1 (kk i)=true) (hn:items.size<=1000) (hp:∀m,m<items.size->ql s.heap (ad m) (kk m) (kv m).2)
  (h:∀(h':Heap) (tk:Nat),h'.DictOf (bS prog w) s.heap.objs.size (tE kv items.size)->(∀b o,s.heap.get? b=some o->h'.get? b=some o)->Q (.ref s.heap.objs.size) {s with heap:=h',toks:=tk}):
  wpAny (model prog w) A (call (.type "dict") [.ref l]) Q E s:=by
 refine callType_codes (Q₁:= λlC cI=>lC = .ref s.heap.objs.size/\cI = { s with heap:=s.heap.push { cls:=.type "dict",data:=.dict #[]} }) F.kt_called_dict (F.kt_typeCall_dict_1 _) F.entry_dict_init (kt_code_dict_new _ ⟨rfl,rfl⟩) ?_
 rintro lC cI ⟨rfl,rfl⟩
 have Lg:(s.heap.push { cls:=.type "dict",data:=.dict #[]}).DictOf (bS prog w) s.heap.objs.size []:=Heap.DictOf.new s.heap
 have ZR:(s.heap.push { cls:=.type "dict",data:=.dict #[]}).get? l=some { cls:=.type "list",data:=.seq items nl}:=zab _ hol
 have hlS:l<s.heap.objs.size:=zam hol
 refine⟨Lg.typeIs,F.args_dict_init_2 _ _,?_⟩
 unfold Builtin.«dict.__init__»
 refine zaa ?_
 unfold Builtin.Dict.selfAndRest;refine zaa (wpAny_notOrdered_dict Lg.typeIs (?_:wpAny _ _ (pure (s.heap.objs.size,[Value.ref l])) _ _ _))
 refine zad ?_
 show wpAny _ _ (Builtin.Dict.updateFrom "dict.__init__" s.heap.objs.size (.ref l) [] .none) _ _ _
 unfold Builtin.Dict.updateFrom;refine zaa (zcO (T:= "list") ⟨_,ZR,rfl⟩ ?_)
 rw[if_pos (by decide)]
 refine zaa (IC ZR (by simp[hh]) λh1 tk1 hk1=>?_)
 simp only[zdB,if_true];refine zaa (zcU ?_)
 have alF:h1.get? l=some { cls:=.type "list",data:=.seq items nl}:=hk1 _ _ ZR
 have U6:h1.DictOf (bS prog w) s.heap.objs.size []:=DictOf.gz Lg λo ho=>hk1 _ _ ho
 have U7:h1.IsList l items:=⟨_,alF,rfl,nl,rfl⟩
 have Rq:s.heap.objs.size<h1.objs.size:=by
  obtain⟨o,_,_,ho,_⟩:=U6;exact zam ho
 refine zaa (zce (s:={s with heap:=h1,toks:=tk1}) U7 ?_)
 refine zad ?_
 refine⟨plainId_quiet ng _,?_⟩
 have alG:l≠h1.objs.size:=zaq (zdV hlS Rq)
 have hSf:s.heap.objs.size∉[h1.objs.size,l]:=by
  simp only[zap,zaC,or_false,not_or];exact⟨zaq Rq,zbS hlS⟩
 have hp1:∀m,m<items.size->ql h1 (ad m) (kk m) (kv m).2:=λm hm=>by
  obtain⟨o,q,ho,cX⟩:=hp m hm;exact⟨o,q,hk1 _ _ (zab _ ho),cX⟩
 refine ID ((Walks.list (by simp[hh]) _ l alG items).toS) s.heap.objs.size hSf ad kk kv (λi v hv=>ZQ i v hv) KQ hn (λi hi=>?_) items.size 0 _ _ (by omega)
  ⟨⟨_,zan _ rfl,rfl,rfl⟩,(U7.push _)⟩ (DictOf.gz U6 λo ho=>zab _ ho) (λm hm=>?_) ?_
 ·obtain⟨o,q,ho,_⟩:=hp i hi
  have:=zam ho
  simp only[zap,zaC,or_false,not_or];exact⟨zaq this,zaq (zdV this Rq)⟩
 ·obtain⟨o,q,ho,cX⟩:=hp1 m hm
  exact⟨o,q,zab _ ho,cX⟩
 ·intro s' hm hS'
  obtain⟨h',g',d',tk',os'⟩:=s';have eg:g'=s.gens:=hm.gens
  have ed:d'=s.drawn:=hm.drawn
  have eo:os'=s.os:=hm.os
  subst eg;subst ed;subst eo;refine⟨rfl,h h' tk' hS' λb o e=>?_⟩
  have hb0:=zam e;exact hm.heap b o (by simp only[zap,zaC,or_false,not_or];exact⟨zaq hb0,zaq (zdV hb0 Rq)⟩) (zab _ (hk1 _ _ (zab _ e)))
end
inductive Tr where
 |bw|bl (b:Bool)|int (i:Int)|str (x:Str)|tp (l:List Tr)|ls (l:List Tr)|kt (l:List Tr)|kl (l:List Tr)|hd (n:Nat)
inductive Ce where
 |tF|aV (l:List Tr)|gQ (l:List (dz×Tr))|fE (c:Str) (fs:List (Str×Tr))|wD (c:Str) (fs:List (Str×Tr))|P4 (l:List (List dz×Tr))|wF (l:List (dz×Tr))|DR (l:List (List dz×Tr))
noncomputable def Ce.fz:Ce->Bool|.tF=>true|.wF _=>true|.DR _=>true|_=>false
noncomputable abbrev Cs:=List Ce
structure Wd where
 K:W.Frag
 n:Nat
 ρ:Nat->Addr
 F:Hp
 hid:Hp
structure Wd.le (w w':Wd):Prop where
 K:w'.K=w.K
 n:w.n<=w'.n
 r:∀i,i<w.n->w'.ρ i=w.ρ i
 F:∀b o,w.F b=some o->w'.F b=some o
 hid:w'.hid=w.hid
theorem Wd.le.refl (w:Wd):w.le w:=⟨rfl,zah _,λ_ _=>rfl,λ_ _ h=>h,rfl⟩
theorem Wd.le.trans {a b c:Wd}(h:a.le b)(g:b.le c):a.le c:=
 ⟨g.K.trans h.K,zai h.n g.n,λi hi=>(g.r i (zao hi h.n)).trans (h.r i hi),λb o e=>g.F b o (h.F b o e),g.hid.trans h.hid⟩
mutual
noncomputable def RT (w:Wd):Tr->V->Prop
 |.bw,v=>v = .bw
 |.bl b,v=>v = .bl b
 |.int i,v=>v = .int i
 |.str x,v=>v = .str x
 |.tp l,v=>∃a xs,v = .ref a/\w.F a=some (.gp xs)/\bF w l xs
 |.ls l,v=>∃a xs,v = .ref a/\w.F a=some (.aV xs)/\bF w l xs
 |.kt l,v=>∃a xs,v = .ref a/\oM w.K w.F a xs/\bF w l xs
 |.kl l,v=>∃a xs,v = .ref a/\i6 w.K w.F a xs/\bF w l xs
 |.hd n,v=>n<w.n/\v = .ref (w.ρ n)
noncomputable def bF (w:Wd):List Tr->List V->Prop
 |[],xs=>xs=[]
 |d::l,xs=>∃x r,xs=x::r/\RT w d x/\bF w l r
end
theorem Rd.mono {H H':Hp}(h:∀b o,H b=some o->H' b=some o){a:Addr}{u:HO}(r:Rd H a u):Rd H' a u:=by
 rcases r with r|⟨o,r⟩
 ·exact .inl (h _ _ r)
 ·exact .inr ⟨o,h _ _ r⟩
theorem i6.mono {K:W.Frag}{H H':Hp}(h:∀b o,H b=some o->H' b=some o){a:Addr}{xs:List V}(r:i6 K H a xs):i6 K H' a xs:=r.imp (Rd.mono h) id
theorem oM.mono {K:W.Frag}{H H':Hp}(h:∀b o,H b=some o->H' b=some o){a:Addr}{xs:List V}(r:oM K H a xs):oM K H' a xs:=r.imp (Rd.mono h) id
mutual
theorem RT.mono {w w':Wd}(le:w.le w'):∀(t:Tr) (v:V),RT w t v->RT w' t v
 |.bw,v,h=>by unfold RT at h ⊢;exact h
 |.bl b,v,h=>by unfold RT at h ⊢;exact h
 |.int b,v,h=>by unfold RT at h ⊢;exact h
 |.str b,v,h=>by unfold RT at h ⊢;exact h
 |.tp l,v,h=>by
  unfold RT at h ⊢
  obtain⟨a,xs,e,s,r⟩:=h;exact⟨a,xs,e,le.F _ _ s,bF.mono le l xs r⟩
 |.ls l,v,h=>by
  unfold RT at h ⊢
  obtain⟨a,xs,e,s,r⟩:=h;exact⟨a,xs,e,le.F _ _ s,bF.mono le l xs r⟩
 |.kt l,v,h=>by
  unfold RT at h ⊢
  obtain⟨a,xs,e,s,r⟩:=h;exact⟨a,xs,e,by rw[le.K];exact s.mono le.F,bF.mono le l xs r⟩
 |.kl l,v,h=>by
  unfold RT at h ⊢
  obtain⟨a,xs,e,s,r⟩:=h;exact⟨a,xs,e,by rw[le.K];exact s.mono le.F,bF.mono le l xs r⟩
 |.hd n,v,h=>by
  unfold RT at h ⊢
  exact⟨zao h.1 le.n,by rw[le.r n h.1];exact h.2⟩
theorem bF.mono {w w':Wd}(le:w.le w'):∀(l:List Tr) (xs:List V),bF w l xs->bF w' l xs
 |[],xs,h=>by unfold bF at h ⊢;exact h
 |d::l,xs,h=>by
  unfold bF at h ⊢
  obtain⟨x,r,e,h1,h2⟩:=h;exact⟨x,r,e,RT.mono le d x h1,bF.mono le l r h2⟩
end
mutual
theorem RT.bu {w:Wd}(hid:Hp):∀(t:Tr) (v:V),RT w t v->RT {w with hid:=hid} t v
 |.bw,v,h=>by unfold RT at h ⊢;exact h
 |.bl b,v,h=>by unfold RT at h ⊢;exact h
 |.int b,v,h=>by unfold RT at h ⊢;exact h
 |.str b,v,h=>by unfold RT at h ⊢;exact h
 |.tp l,v,h=>by unfold RT at h ⊢;obtain⟨a,xs,e,s,r⟩:=h;exact⟨a,xs,e,s,bF.bu hid l xs r⟩
 |.ls l,v,h=>by unfold RT at h ⊢;obtain⟨a,xs,e,s,r⟩:=h;exact⟨a,xs,e,s,bF.bu hid l xs r⟩
 |.kt l,v,h=>by unfold RT at h ⊢;obtain⟨a,xs,e,s,r⟩:=h;exact⟨a,xs,e,s,bF.bu hid l xs r⟩
 |.kl l,v,h=>by unfold RT at h ⊢;obtain⟨a,xs,e,s,r⟩:=h;exact⟨a,xs,e,s,bF.bu hid l xs r⟩
 |.hd n,v,h=>by unfold RT at h ⊢;exact h
theorem bF.bu {w:Wd}(hid:Hp):∀(l:List Tr) (xs:List V),bF w l xs->bF {w with hid:=hid} l xs
 |[],xs,h=>by unfold bF at h ⊢;exact h
 |d::l,xs,h=>by
  unfold bF at h ⊢
  obtain⟨x,r,e,h1,h2⟩:=h;exact⟨x,r,e,RT.bu hid d x h1,bF.bu hid l r h2⟩
end
theorem bF.nil {w:Wd}:bF w [] []:=by unfold bF;rfl
theorem bF.cons {w:Wd}{t:Tr}{l:List Tr}{v:V}{xs:List V}(h:RT w t v)(r:bF w l xs):bF w (t::l) (v::xs):=by unfold bF;exact⟨v,xs,rfl,h,r⟩
theorem bF.bP {w:Wd}{xs:List V}(h:bF w [] xs):xs=[]:=by unfold bF at h;exact h
theorem bF.bh {w:Wd}{t:Tr}{l:List Tr}{xs:List V}(h:bF w (t::l) xs):∃x r,xs=x::r/\RT w t x/\bF w l r:=by unfold bF at h;exact h
theorem bF.len {w:Wd}:∀{l:List Tr} {xs:List V},bF w l xs->xs.length=l.length
 |[],xs,h=>by rw[h.bP];rfl
 |d::l,xs,h=>by
  obtain⟨x,r,rfl,_,h2⟩:=h.bh;simp[bF.len h2]
theorem bF.get {w:Wd}:∀{l:List Tr} {xs:List V} {i:Nat} {t:Tr},bF w l xs->l[i]? = some t->∃v,xs[i]? = some v/\RT w t v
 |[],xs,i,t,h,e=>by simp at e
 |d::l,xs,i,t,h,e=>by
  obtain⟨x,r,rfl,h1,h2⟩:=h.bh;cases i with
  |zero=>simp at e;subst e;exact⟨x,rfl,h1⟩
  |succ i=>simpa using bF.get (i:=i) h2 (by simpa using e)
theorem bF.rJ {w:Wd}:∀{l m:List Tr} {xs ys:List V},bF w l xs->bF w m ys->bF w (l++m) (xs++ys)
 |[],m,xs,ys,h,g=>by rw[h.bP];exact g
 |d::l,m,xs,ys,h,g=>by
  obtain⟨x,r,rfl,h1,h2⟩:=h.bh;exact .cons h1 (bF.rJ h2 g)
theorem bF.set {w:Wd}{t:Tr}{v:V}(ht:RT w t v):∀{l:List Tr} {xs:List V} (i:Nat),bF w l xs->bF w (l.set i t) (xs.set i v)
 |[],xs,i,h=>by rw[h.bP];exact .nil
 |d::l,xs,i,h=>by
  obtain⟨x,r,rfl,h1,h2⟩:=h.bh;cases i with
  |zero=>exact .cons ht h2
  |succ i=>exact .cons h1 (bF.set ht i h2)
theorem bF.take {w:Wd}:∀{l:List Tr} {xs:List V} (n:Nat),bF w l xs->bF w (l.take n) (xs.take n)
 |[],xs,n,h=>by rw[h.bP];simp;exact .nil
 |d::l,xs,0,h=>by simp;exact .nil
 |d::l,xs,n+1,h=>by
  obtain⟨x,r,rfl,h1,h2⟩:=h.bh;exact .cons h1 (bF.take n h2)
theorem bF.drop {w:Wd}:∀{l:List Tr} {xs:List V} (n:Nat),bF w l xs->bF w (l.drop n) (xs.drop n)
 |[],xs,n,h=>by rw[h.bP];simp;exact .nil
 |d::l,xs,0,h=>h
 |d::l,xs,n+1,h=>by
  obtain⟨x,r,rfl,h1,h2⟩:=h.bh;exact bF.drop n h2
theorem bF.snoc {w:Wd}{l:List Tr}{xs:List V}{t:Tr}{v:V}(h:bF w l xs)(g:RT w t v):bF w (l++[t]) (xs++[v]):=h.rJ (.cons g .nil)
noncomputable def RK (w:Wd){α:Type}(l:List (α × Tr))(m:List (α × V)):Prop:=m.map Prod.fst=l.map Prod.fst/\bF w (l.map Prod.snd) (m.map Prod.snd)
theorem RK.mono {w w':Wd}(le:w.le w'){α:Type}{l:List (α × Tr)}{m:List (α × V)}(h:RK w l m):RK w' l m:=⟨h.1,bF.mono le _ _ h.2⟩
theorem RK.nil {w:Wd}{α:Type}:RK w ([]:List (α × Tr)) []:=⟨rfl,.nil⟩
theorem RK.cons {w:Wd}{α:Type}{k:α}{t:Tr}{v:V}{l:List (α × Tr)}{m:List (α × V)}(h:RT w t v)(r:RK w l m):RK w ((k,t)::l) ((k,v)::m):=⟨by simp[r.1],.cons h r.2⟩
theorem RK.bh {w:Wd}{α:Type}{k:α}{t:Tr}{l:List (α × Tr)}{m:List (α × V)}(h:RK w ((k,t)::l) m):∃v r,m=(k,v)::r/\RT w t v/\RK w l r:=by
 obtain⟨h1,h2⟩:=h;cases m with
 |nil=>simp at h1
 |cons p r =>
  obtain⟨q,v⟩:=p;simp only[zau,List.cons.injEq] at h1;obtain⟨x,r',e,g1,g2⟩:=h2.bh;simp only[zau,List.cons.injEq] at e;obtain⟨rfl,rfl⟩:=e;obtain⟨rfl,e2⟩:=h1;exact⟨v,r,rfl,g1,e2,g2⟩
theorem RK.bP {w:Wd}{α:Type}{m:List (α × V)}(h:RK w ([]:List (α × Tr)) m):m=[]:=by simpa using h.1
theorem RK.len {w:Wd}{α:Type}{l:List (α × Tr)}{m:List (α × V)}(h:RK w l m):m.length=l.length:=by simpa using congrArg List.length h.1
noncomputable def eU (S:Cs)(i:Nat):Prop:=∃c,S[i]? = some c/\c.fz=false
open Classical in
noncomputable def Fz (ρ:Nat->Addr)(hid:Hp)(S:Cs)(H:Hp):Hp:=λb=>if (∃i,eU S i /\ ρ i=b)\/hid b≠none then none else H b
structure Gx where
 K:W.Frag
 cl:Str->Addr
 E:XK
noncomputable def bE (G:Gx)(w:Wd)(H:Hp)(a:Addr):Ce->Prop
 |.tF=>True
 |.aV l=>∃xs,H a=some (.aV xs)/\bF w l xs
 |.gQ l=>∃aJ,H a=some (.dK aJ)/\RK w l aJ
 |.fE c fs=>∃dx wG,H a=some (.fE (G.cl c) dx wG)/\RK w fs wG
 |.wD c fs=>∃T d wG,H a=some (tD a (G.cl c) (some d) T)/\w.F T=some (TB T)/\w.F d=some (ED d wG)/\T≠a/\d≠a/\RK w fs wG
 |.P4 l=>∃aJ,H a=some (.dT aJ)/\RK w l aJ
 |.wF l=>∃o aJ,w.F a=some (.p_ o (.dK aJ))/\RK w l aJ
 |.DR l=>∃o aJ,w.F a=some (.p_ o (.dT aJ))/\RK w l aJ
theorem bE.mono {G:Gx}{w w':Wd}(le:w.le w'){H H':Hp}{a:Addr}(hH:∀o,H a=some o->H' a=some o):∀{c:Ce},bE G w H a c->bE G w' H' a c
 |.tF,_=>trivial
 |.aV l,h=>let ⟨xs,e,r⟩:=h;⟨xs,hH _ e,bF.mono le _ _ r⟩
 |.gQ l,h=>let ⟨xs,e,r⟩:=h;⟨xs,hH _ e,r.mono le⟩
 |.fE c l,h=>let ⟨dx,xs,e,r⟩:=h;⟨dx,xs,hH _ e,r.mono le⟩
 |.wD c l,h=>let ⟨T,d,xs,e,e2,e3,n1,n2,r⟩:=h;⟨T,d,xs,hH _ e,le.F _ _ e2,le.F _ _ e3,n1,n2,r.mono le⟩
 |.P4 l,h=>let ⟨xs,e,r⟩:=h;⟨xs,hH _ e,r.mono le⟩
 |.wF l,h=>let ⟨o,xs,e,r⟩:=h;⟨o,xs,le.F _ _ e,r.mono le⟩
 |.DR l,h=>let ⟨o,xs,e,r⟩:=h;⟨o,xs,le.F _ _ e,r.mono le⟩
theorem bE.LQ {G:Gx}{w w':Wd}(le:w.le w'){H H':Hp}{a:Addr}:∀{c:Ce},c.fz=true->bE G w H a c->bE G w' H' a c
 |.tF,_,_=>trivial
 |.wF l,_,h=>let ⟨o,xs,e,r⟩:=h;⟨o,xs,le.F _ _ e,r.mono le⟩
 |.DR l,_,h=>let ⟨o,xs,e,r⟩:=h;⟨o,xs,le.F _ _ e,r.mono le⟩
theorem RK.bu {w:Wd}(hid:Hp){α:Type}{l:List (α × Tr)}{m:List (α × V)}(h:RK w l m):RK {w with hid:=hid} l m:=⟨h.1,bF.bu hid _ _ h.2⟩
theorem bE.bu {G:Gx}{w:Wd}{hid:Hp}{H H':Hp}{a:Addr}(hH:∀o,H a=some o->H' a=some o):∀{c:Ce},bE G w H a c->bE G {w with hid:=hid} H' a c
 |.tF,_=>trivial
 |.aV l,h=>let ⟨xs,e,r⟩:=h;⟨xs,hH _ e,bF.bu hid _ _ r⟩
 |.gQ l,h=>let ⟨xs,e,r⟩:=h;⟨xs,hH _ e,r.bu hid⟩
 |.fE c l,h=>let ⟨dx,xs,e,r⟩:=h;⟨dx,xs,hH _ e,r.bu hid⟩
 |.wD c l,h=>let ⟨T,d,xs,e,e2,e3,n1,n2,r⟩:=h;⟨T,d,xs,hH _ e,e2,e3,n1,n2,r.bu hid⟩
 |.P4 l,h=>let ⟨xs,e,r⟩:=h;⟨xs,hH _ e,r.bu hid⟩
 |.wF l,h=>let ⟨o,xs,e,r⟩:=h;⟨o,xs,e,r.bu hid⟩
 |.DR l,h=>let ⟨o,xs,e,r⟩:=h;⟨o,xs,e,r.bu hid⟩
theorem bE.IE {G:Gx}{w:Wd}{hid:Hp}{H H':Hp}{a:Addr}:∀{c:Ce},c.fz=true->bE G w H a c->bE G {w with hid:=hid} H' a c
 |.tF,_,_=>trivial
 |.wF l,_,h=>let ⟨o,xs,e,r⟩:=h;⟨o,xs,e,r.bu hid⟩
 |.DR l,_,h=>let ⟨o,xs,e,r⟩:=h;⟨o,xs,e,r.bu hid⟩
theorem bE.ZS {G:Gx}{w:Wd}{F' Rr:Hp}(hF:∀b o,w.F b=some o->F' b=some o){H:Hp}{a:Addr}{c:Ce}(h:bE G w H a c):bE G {w with hid:=Rr,F:=F' } H a c:=
 bE.mono (w:={w with hid:=Rr}) (w':={w with hid:=Rr,F:=F' }) ⟨rfl,zah _,λ_ _=>rfl,hF,rfl⟩ (λ_ e=>e) (bE.bu (hid:=Rr) (λ_ e=>e) h)
theorem bE.some {G:Gx}{w:Wd}{H:Hp}{a:Addr}:∀{c:Ce},bE G w H a c->c.fz=false->∃o,H a=some o
 |.tF,_,n=>by cases n
 |.aV l,h,_=>let ⟨xs,e,r⟩:=h;⟨_,e⟩
 |.gQ l,h,_=>let ⟨xs,e,r⟩:=h;⟨_,e⟩
 |.fE c l,h,_=>let ⟨dx,xs,e,r⟩:=h;⟨_,e⟩
 |.wD c l,h,_=>let ⟨T,d,xs,e,_⟩:=h;⟨_,e⟩
 |.P4 l,h,_=>let ⟨xs,e,r⟩:=h;⟨_,e⟩
 |.wF l,_,n=>by cases n
 |.DR l,_,n=>by cases n
structure HR (G:Gx) (w:Wd) (S:Cs) (H:Hp):Prop where
 K:w.K=G.K
 n:w.n=S.length
 F:w.F=Fz w.ρ w.hid S H
 cell:∀i c,S[i]? = some c->bE G w H (w.ρ i) c
 inj:∀i j,eU S i->eU S j->w.ρ i=w.ρ j->i=j
 hid:∀b o,w.hid b=some o->H b=some o
 jZ:∀i,eU S i->w.hid (w.ρ i)=none
 hl:∀b xs,w.hid b≠some (.gp xs)
theorem HR.sub (h:HR G w S H):∀b o,w.F b=some o->H b=some o:=λb o e=>by
 rw[h.F] at e;unfold Fz at e;split at e
 ·cases e
 ·exact e
theorem HR.sqL (h:HR G w S H){a:Addr}{xs:List V}(s:i6 w.K w.F a xs):i6 G.K H a xs:=by rw[<-h.K];exact s.mono h.sub
theorem HR.sqT (h:HR G w S H){a:Addr}{xs:List V}(s:oM w.K w.F a xs):oM G.K H a xs:=by rw[<-h.K];exact s.mono h.sub
theorem HR.live (h:HR G w S H){i:Nat}(l:eU S i):∃o,H (w.ρ i)=some o:=by
 obtain⟨c,e,n⟩:=l;exact (h.cell i c e).some n
theorem HR.F5 (h:HR G w S H){p:Addr}(hp:H p=none):w.hid p=none:=by
 cases e:w.hid p with
 |none=>rfl
 |some o=>rw[h.hid p o e] at hp;cases hp
theorem HR.free (h:HR G w S H){p:Addr}(hp:H p=none):¬ ((∃i,eU S i/\w.ρ i=p)\/w.hid p≠none):=by
 rintro (⟨i,l,rfl⟩|z)
 ·obtain⟨o,e⟩:=h.live l
  rw[hp] at e;cases e
 ·exact z (h.F5 hp)
theorem HR.LR (h:HR G w S H){p:Addr}(hp:H p=none):w.F p=none:=by rw[h.F];unfold Fz;rw[if_neg (h.free hp)];exact hp
theorem zj {hid:Hp}{H:Hp}{p:Addr}{o:HO}(h:∀b o,hid b=some o->H b=some o)(hp:hid p=none):∀b u,hid b=some u->br H p o b=some u:=λb u e=>by
 rw[aq λz=>by subst z;rw[hp] at e;cases e]
 exact h b u e
theorem LS {hid:Hp}{p:Addr}{o:HO}(h:∀b xs,hid b≠some (.gp xs))(ho:∀xs,o ≠ .gp xs):∀b xs,br hid p o b≠some (.gp xs):=λb xs e=>by
 by_cases hb:b=p
 ·subst hb;rw[av] at e;cases e;exact ho _ rfl
 ·rw[aq hb] at e;exact h b xs e
theorem HR.ZT (h:HR G w S H){p:Addr}(hp:H p=none)(o:HO):HR G {w with F:=br w.F p o} S (br H p o)/\w.le {w with F:=br w.F p o}:=by
 have hn:=h.free hp;have hF:=h.LR hp;have le:w.le {w with F:=br w.F p o}:=⟨rfl,zah _,λ_ _=>rfl,λb u e=>kH hF e,rfl⟩
 refine⟨⟨h.K,h.n,?_,λi c e=>(h.cell i c e).mono le λu eu=>kH hp eu,h.inj,zj h.hid (h.F5 hp),h.jZ,h.hl⟩,le⟩
 show br w.F p o=Fz w.ρ w.hid S (br H p o)
 rw[h.F];funext b
 by_cases hb:b=p
 ·subst hb
  rw[av];unfold Fz;rw[if_neg hn,av]
 ·rw[aq hb]
  unfold Fz;rw[aq hb]
theorem xD {c:Ce}(hc:c.fz=false):∀i,eU (S++[c]) i↔eU S i\/i=S.length:=λi=>by
  constructor
  ·rintro⟨d,e,n⟩
   by_cases hi:i<S.length
   ·rw[zaj hi] at e;exact .inl ⟨d,e,n⟩
   ·rw[zat (by omega)] at e
    have:i - S.length<1:=by
     have:=(zae.mp e).1
     simpa using this
    exact .inr (by omega)
  ·rintro (⟨d,e,n⟩|rfl)
   ·exact⟨d,by rw[zaj (zae.mp e).1];exact e,n⟩
   ·exact⟨c,by simp,hc⟩
theorem eU.lt {i:Nat}(l:eU S i):i<S.length:=let ⟨_,e,_⟩:=l;(zae.mp e).1
noncomputable def Wd.up (w:Wd)(p:Addr):Wd:={w with n:=w.n+1,ρ:= λi=>if i=w.n then p else w.ρ i}
theorem Wd.tG (w:Wd)(p:Addr):w.le (w.up p):=⟨rfl,zbk _,λi hi=>by show (if i=w.n then p else w.ρ i)=_;rw[if_neg (by omega)],λb u e=>e,rfl⟩
theorem HR.agn (h:HR G w S H){p:Addr}{H':Hp}{c:Ce}(hc:c.fz=false)(IG:∀i,eU S i->w.ρ i≠p)(hH:∀b,b≠p->H' b=H b)(hF:w.F p=none)(hh:w.hid p=none)
  (ok:bE G (w.up p) H' p c):HR G (w.up p) (S++[c]) H':=by
 have lv:=xD (S:=S) hc
 have le:=w.tG p;have iN:∀i,i<S.length->(w.up p).ρ i=w.ρ i:=λi hi=>le.r i (by rw[h.n];exact hi)
 have qm:(w.up p).ρ S.length=p:=by show (if S.length=w.n then p else w.ρ S.length)=p;rw[if_pos h.n.symm]
 refine⟨h.K,by show w.n+1=_;simp[h.n],?_,λi d e=>?_,λi j li lj e=>?_,λb o e=>?_,λi li=>?_,h.hl⟩
 ·show w.F=Fz (w.up p).ρ w.hid (S++[c]) H'
  rw[h.F];funext b
  unfold Fz;by_cases hb:b=p
  ·subst hb
   rw[h.F] at hF;unfold Fz at hF;rw[hF,if_pos (.inl ⟨S.length,(lv _).mpr (.inr rfl),qm⟩)]
  ·rw[hH b hb]
   have U8:(∃i,eU (S++[c]) i/\(w.up p).ρ i=b)↔∃i,eU S i/\w.ρ i=b:=by
    constructor
    ·rintro⟨i,li,e⟩
     rcases (lv i).mp li with l|rfl
     ·rw[iN i l.lt] at e
      exact⟨i,l,e⟩
     ·rw[qm] at e;exact absurd e.symm hb
    ·rintro⟨i,l,e⟩
     exact⟨i,(lv i).mpr (.inl l),by rw[iN i l.lt];exact e⟩
   by_cases hx:(∃i,eU S i/\w.ρ i=b)\/w.hid b≠none
   ·rw[if_pos hx,if_pos (hx.imp U8.mpr λz=>z)]
   ·rw[if_neg hx,if_neg (λz=>hx (z.imp U8.mp λz=>z))]
 ·by_cases hi:i<S.length
  ·rw[zaj hi] at e
   rw[iN i hi];cases hd:d.fz with
   |true=>exact bE.LQ le hd (h.cell i d e)
   |false=>exact (h.cell i d e).mono le λu eu=>by rw[hH _ (IG i ⟨d,e,hd⟩)];exact eu
  ·rw[zat (by omega)] at e
   have h0:i - S.length<1:=by simpa using (zae.mp e).1
   have h1:i=S.length:=by omega
   subst h1;simp at e
   subst e;rw[qm];exact ok
 ·rcases (lv i).mp li with l|rfl
  ·rcases (lv j).mp lj with l' | rfl
   ·rw[iN i l.lt,iN j l'.lt] at e
    exact h.inj i j l l' e
   ·rw[iN i l.lt,qm] at e
    exact absurd e (IG i l)
  ·rcases (lv j).mp lj with l' | rfl
   ·rw[qm,iN j l'.lt] at e
    exact absurd e.symm (IG j l')
   ·rfl
 ·have e2:w.hid b=some o:=e
  rw[hH b λz=>by subst z;rw[hh] at e2;cases e2]
  exact h.hid b o e2
 ·show w.hid _=none
  rcases (lv i).mp li with l|rfl
  ·rw[iN i l.lt];exact h.jZ i l
  ·rw[qm];exact hh
theorem HR.LU (h:HR G w S H){p:Addr}(hp:H p=none):∀i,eU S i->w.ρ i≠p:=λi l z=>h.free hp (.inl ⟨i,l,z⟩)
theorem HR.II (h:HR G w S H){p:Addr}(hp:H p=none){o:HO}{c:Ce}(hc:c.fz=false)(ok:bE G (w.up p) (br H p o) p c):HR G (w.up p) (S++[c]) (br H p o)/\w.le (w.up p):=
 ⟨h.agn hc (h.LU hp) (λb hb=>aq hb) (h.LR hp) (h.F5 hp) ok,w.tG p⟩
theorem HR.Dv (h:HR G w S H){i:Nat}{c c':Ce}(e:S[i]? = some c)(hc:c.fz=false)(Qe:c'.fz=false){o:HO}(ok:bE G w (br H (w.ρ i) o) (w.ρ i) c'):HR G w (S.set i c') (br H (w.ρ i) o):=by
 have hi:=(zae.mp e).1
 have lv:∀j,eU (S.set i c') j↔eU S j:=λj=>by
  unfold eU;by_cases hj:i=j
  ·subst hj
   rw[zaH hi];exact⟨λ_=>⟨c,e,hc⟩,λ_=>⟨c',rfl,Qe⟩⟩
  ·rw[zaA hj]
 have li:eU S i:=⟨c,e,hc⟩
 refine⟨h.K,by simp[h.n],?_,λj d ej=>?_,λa b la lb=>h.inj a b ((lv a).mp la) ((lv b).mp lb),zj h.hid (h.jZ i li),λj lj=>h.jZ j ((lv j).mp lj),h.hl⟩
 ·rw[h.F]
  funext b
  unfold Fz;by_cases hn:(∃i,eU S i/\w.ρ i=b)\/w.hid b≠none
  ·rw[if_pos hn,if_pos (hn.imp (λz=>z.imp λj hj=>⟨(lv j).mpr hj.1,hj.2⟩) λz=>z)]
  ·rw[if_neg hn,if_neg (λz=>hn (z.imp (λz=>z.imp λj hj=>⟨(lv j).mp hj.1,hj.2⟩) λz=>z)),aq λz=>hn (.inl ⟨i,⟨c,e,hc⟩,z.symm⟩)]
 ·by_cases hj:i=j
  ·subst hj
   rw[zaH hi] at ej;cases ej;exact ok
  ·rw[zaA hj] at ej
   cases hd:d.fz with
   |true=>exact bE.LQ (Wd.le.refl w) hd (h.cell j d ej)
   |false =>
    refine (h.cell j d ej).mono (Wd.le.refl w) λu eu=>?_
    rw[aq λz=>hj (h.inj i j ⟨c,e,hc⟩ ⟨d,ej,hd⟩ z.symm)]
    exact eu
theorem HR.alH (h:HR G w S H){p:Addr}(hp:H p=none)(o:HO)(ho:∀xs,o ≠ .gp xs):HR G {w with hid:=br w.hid p o} S (br H p o):=by
 have hn:=h.free hp;have wi:∀{t:Tr} {v:V},RT w t v->RT {w with hid:=br w.hid p o} t v:=λ{t v} r=>RT.bu _ t v r
 refine⟨h.K,h.n,?_,λi c e=>(h.cell i c e).bu λu eu=>kH hp eu,h.inj,λb u e=>?_,λi l=>?_,LS h.hl ho⟩
 ·show w.F=Fz w.ρ (br w.hid p o) S (br H p o)
  rw[h.F];funext b
  unfold Fz;by_cases hb:b=p
  ·subst hb
   rw[if_neg hn,if_pos (.inr (by rw[av];simp)),hp]
  ·rw[aq hb,aq hb]
 ·have e:br w.hid p o b=some u:=e
  by_cases hb:b=p
  ·subst hb;rw[av] at e ⊢;exact e
  ·rw[aq hb] at e ⊢;exact h.hid b u e
 ·show br w.hid p o _=none
  rw[aq (h.LU hp i l)];exact h.jZ i l
theorem HR.ZU (h:HR G w S H){p:Addr}{o:HO}(hp:w.hid p=some o)(o':HO)(ho:∀xs,o' ≠ .gp xs):HR G {w with hid:=br w.hid p o' } S (br H p o'):=by
 have IG:∀i,eU S i->w.ρ i≠p:=λi l z=>by have:=h.jZ i l;rw[z,hp] at this;cases this
 refine⟨h.K,h.n,?_,λi c e=>?_,h.inj,λb u e=>?_,λi l=>?_,LS h.hl ho⟩
 ·show w.F=Fz w.ρ (br w.hid p o') S (br H p o')
  rw[h.F];funext b
  unfold Fz;by_cases hb:b=p
  ·subst hb
   rw[if_pos (.inr (by rw[hp];simp)),if_pos (.inr (by rw[av];simp))]
  ·rw[aq hb,aq hb]
 ·cases hd:c.fz with
  |true=>exact bE.IE hd (h.cell i c e)
  |false=>exact (h.cell i c e).bu λu eu=>by rw[aq (IG i ⟨c,e,hd⟩)];exact eu
 ·have e:br w.hid p o' b=some u:=e
  by_cases hb:b=p
  ·subst hb;rw[av] at e ⊢;exact e
  ·rw[aq hb] at e ⊢;exact h.hid b u e
 ·show br w.hid p o' _=none
  rw[aq (IG i l)];exact h.jZ i l
theorem HR.ago (h:HR G w S H){p:Addr}{o:HO}{lP:Hp}(e0:w.hid=br lP p o)(ZV:lP p=none):HR G {w with hid:=lP,F:=br w.F p o} S H:=by
 have hp:w.hid p=some o:=by rw[e0];exact av
 have hH:H p=some o:=h.hid p o hp
 have IG:∀i,eU S i->w.ρ i≠p:=λi l z=>by have:=h.jZ i l;rw[z,hp] at this;cases this
 have hF:w.F p=none:=by rw[h.F];unfold Fz;rw[if_pos (.inr (by rw[hp];simp))]
 refine⟨h.K,h.n,?_,λi c e=>?_,h.inj,λb u e=>?_,λi l=>?_,λb xs (e:lP b=_)=>h.hl b xs (by rw[e0,aq λz=>by rw[z,ZV] at e;cases e];exact e)⟩
 ·show br w.F p o=Fz w.ρ lP S H
  rw[h.F];funext b
  unfold Fz;by_cases hb:b=p
  ·subst hb
   rw[av,if_neg,hH];rintro (⟨i,l,z⟩|z)
   ·exact IG i l z
   ·exact z ZV
  ·rw[aq hb,e0,aq hb]
 ·exact bE.ZS (λb u e=>kH hF e) (h.cell i c e)
 ·have e2:lP b=some u:=e
  have nb:b≠p:=λz=>by rw[z,ZV] at e2;cases e2
  exact h.hid b u (by rw[e0,aq nb];exact e2)
 ·have:=h.jZ i l
  rw[e0,aq (IG i l)] at this;exact this
theorem HR.Rt (h:HR G w S H){p:Addr}{o:HO}{lP:Hp}(e0:w.hid=br lP p o)(ZV:lP p=none){c:Ce}(hc:c.fz=false)(ok:bE G ({w with hid:=lP}.up p) H p c):HR G ({w with hid:=lP}.up p) (S++[c]) H:=by
 have hp:w.hid p=some o:=by rw[e0];exact av
 have IG:∀i,eU S i->w.ρ i≠p:=λi l z=>by have:=h.jZ i l;rw[z,hp] at this;cases this
 have lv:=xD (S:=S) hc
 have le:=({w with hid:=lP}:Wd).tG p
 have iN:∀i,i<S.length->(if i=w.n then p else w.ρ i)=w.ρ i:=λi hi=>by rw[if_neg (by rw[h.n];omega)]
 have qm:(if S.length=w.n then p else w.ρ S.length)=p:=by rw[if_pos h.n.symm]
 refine⟨h.K,by show w.n+1=_;simp[h.n],?_,λi d e=>?_,λi j li lj e=>?_,λb u e=>?_,λi li=>?_,λb xs (e:lP b=_)=>h.hl b xs (by rw[e0,aq λz=>by rw[z,ZV] at e;cases e];exact e)⟩
 ·show w.F=Fz (λi=>if i=w.n then p else w.ρ i) lP (S++[c]) H
  rw[h.F];funext b
  unfold Fz;by_cases hb:b=p
  ·subst hb
   rw[if_pos (.inr (by rw[hp];simp)),if_pos (.inl ⟨S.length,(lv _).mpr (.inr rfl),qm⟩)]
  ·have U8:(∃i,eU (S++[c]) i/\(if i=w.n then p else w.ρ i)=b)↔∃i,eU S i/\w.ρ i=b:=by
    constructor
    ·rintro⟨i,li,e⟩
     rcases (lv i).mp li with l|rfl
     ·rw[iN i l.lt] at e
      exact⟨i,l,e⟩
     ·rw[qm] at e;exact absurd e.symm hb
    ·rintro⟨i,l,e⟩
     exact⟨i,(lv i).mpr (.inl l),by rw[iN i l.lt];exact e⟩
   have eh:w.hid b=lP b:=by rw[e0,aq hb]
   by_cases hx:(∃i,eU S i/\w.ρ i=b)\/w.hid b≠none
   ·rw[if_pos hx,if_pos (hx.imp U8.mpr λz=>by rw[<-eh];exact z)]
   ·rw[if_neg hx,if_neg (λz=>hx (z.imp U8.mp λz=>by rw[eh];exact z))]
 ·by_cases hi:i<S.length
  ·rw[zaj hi] at e
   show bE G _ H (if i=w.n then p else w.ρ i) d
   rw[iN i hi];exact ((h.cell i d e).bu (hid:=lP) λu eu=>eu).mono le λu eu=>eu
  ·rw[zat (by omega)] at e
   have h0:i - S.length<1:=by simpa using (zae.mp e).1
   have h1:i=S.length:=by omega
   subst h1;simp at e
   subst e;show bE G _ H (if S.length=w.n then p else w.ρ S.length) c
   rw[qm];exact ok
 ·have e:(if i=w.n then p else w.ρ i)=(if j=w.n then p else w.ρ j):=e
  rcases (lv i).mp li with l|rfl
  ·rcases (lv j).mp lj with l' | rfl
   ·rw[iN i l.lt,iN j l'.lt] at e
    exact h.inj i j l l' e
   ·rw[iN i l.lt,qm] at e
    exact absurd e (IG i l)
  ·rcases (lv j).mp lj with l' | rfl
   ·rw[qm,iN j l'.lt] at e
    exact absurd e.symm (IG j l')
   ·rfl
 ·have e2:lP b=some u:=e
  have nb:b≠p:=λz=>by rw[z,ZV] at e2;cases e2
  exact h.hid b u (by rw[e0,aq nb];exact e2)
 ·show lP (if i=w.n then p else w.ρ i)=none
  rcases (lv i).mp li with l|rfl
  ·rw[iN i l.lt]
   have:=h.jZ i l
   rw[e0,aq (IG i l)] at this;exact this
  ·rw[qm];exact ZV
theorem ZW {ρ:Nat->Addr}{hid:Hp}{m:Nat}:∀b o,Fz ρ hid S H b=some o->Fz ρ hid (S.take m) H b=some o:=λb o e=>by
 unfold Fz at e ⊢
 split at e
 ·cases e
 ·rename_i hn
  rw[if_neg]
  ·exact e
  ·rintro (⟨i,⟨c,ei,n⟩,r⟩|z)
   ·have hi:=(zae.mp ei).1
    rw[zaB] at hi;rw[zbG (by omega)] at ei
    exact hn (.inl ⟨i,⟨c,ei,n⟩,r⟩)
   ·exact hn (.inr z)
theorem HR.cut (h:HR G w S H){m:Nat}(hm:m<=S.length)(hb:∀i c,(S.take m)[i]? = some c->bE G {w with n:=m,F:=Fz w.ρ w.hid (S.take m) H} H (w.ρ i) c):HR G {w with n:=m,F:=Fz w.ρ w.hid (S.take m) H} (S.take m) H:=by
 have lv:∀i,eU (S.take m) i->eU S i:=λi ⟨c,e,n⟩=>⟨c,by
  have hi:=(zae.mp e).1
  rw[zaB] at hi;rw[zbG (by omega)] at e
  exact e,n⟩
 exact⟨h.K,by simp;omega,rfl,hb,λi j li lj e=>h.inj i j (lv i li) (lv j lj) e,h.hid,λi l=>h.jZ i (lv i l),h.hl⟩
inductive R (α:Type) where
 |ok (a:α) (s:Cs)|ex (n:Nat) (s:Cs)|ay
noncomputable def R.az {α β:Type}(r:R α)(k:α -> Cs->R β):R β:= match r with|.ok a s=>k a s|.ex n s=>.ex n s|.ay=>.ay
theorem R.dX {α β:Type}(a:α)(s:Cs)(k:α -> Cs->R β):(R.ok a s).az k=k a s:=rfl
theorem R.zk {α β:Type}(k:α -> Cs->R β):(R.ay:R α).az k = .ay:=rfl
noncomputable def wH {α:Type}(c:Prop)(a b:α):α:= @ite α c (Classical.propDecidable c) a b
theorem zl {α:Type}{c:Prop}(h:c)(a b:α):wH c a b=a:=by unfold wH;rw[if_pos h]
theorem agp {α:Type}(a b:α):wH True a b=a:=zl trivial a b
inductive RS where
 |nx (τ:List (Option Tr)) (s:Cs)|rt (t:Tr) (s:Cs)|bk (τ:List (Option Tr)) (s:Cs)|ct (τ:List (Option Tr)) (s:Cs)|ex (n:Nat) (s:Cs)|ay
noncomputable abbrev En:=List (Option Tr)
noncomputable abbrev Em:=En->Cs->R Tr
noncomputable abbrev Sm:=En->Cs->RS
structure Sl (w:Wd) (τ:En) (σ:St):Prop where
 len:τ.length=σ.length
 sM:∀(i:Nat) (t:Tr),τ[i]? = some (some t)->∃v,σ[i]? = some (some v)/\RT w t v
theorem Sl.mono {w w':Wd}(le:w.le w'){τ:En}{σ:St}(h:Sl w τ σ):Sl w' τ σ:= ⟨h.len,λi t e=>let ⟨v,e2,r⟩:=h.sM i t e;⟨v,e2,RT.mono le t v r⟩⟩
theorem Sl.set (h:Sl w τ σ)(i:Nat)(r:RT w t v):Sl w (τ.set i (some t)) (σ.set i (some v)):=by
 refine⟨by simp[h.len],λj u e=>?_⟩
 by_cases hj:i=j
 ·subst hj
  have hi:i<τ.length:=by
   have:=(zae.mp e).1
   simpa using this
  rw[zaH hi] at e;cases e;exact⟨v,by rw[zaH (by rw[<-h.len];exact hi)],r⟩
 ·rw[zaA hj] at e
  rw[zaA hj];exact h.sM j u e
noncomputable def tH (G:Gx)(w:Wd)(n:Nat)(S':Cs):Prop:=∃c fs,S'[n]? = some (.wD c fs)/\∀w' H',w.le w'->HR G w' S' H'->G.E (.ref (G.cl c)) (some (w'.ρ n)) H'
theorem tH.mono {G:Gx}{w w1:Wd}(le:w.le w1){n:Nat}{S:Cs}(h:tH G w n S):tH G w1 n S:=let ⟨c,fs,e,k⟩:=h;⟨c,fs,e,λw' H' l hr=>k w' H' (le.trans l) hr⟩
noncomputable def bg {α β:Type}(jz:Wd -> α -> β -> Prop)(G:Gx)(w:Wd)(r:R α)(Q:β -> Hp->Prop):Prop:=match r with
 |.ok a S'=>∀w' H' b,w.le w'->HR G w' S' H'->jz w' a b->Q b H'
 |.ex n S'=>tH G w n S'
 |.ay=>False
theorem bg.mono {α β:Type}{jz:Wd -> α -> β -> Prop}{G:Gx}{w:Wd}{r:R α}{Q Q' : β -> Hp->Prop}(h:bg jz G w r Q)(k:∀b H,Q b H->Q' b H):bg jz G w r Q':=by
 cases r with
 |ok a S=>exact λw' H' b le hr rl=>k _ _ (h w' H' b le hr rl)
 |ex n S=>exact h
 |ay=>exact h
theorem bg.wd {α β:Type}{jz:Wd -> α -> β -> Prop}{G:Gx}{w w1:Wd}(le:w.le w1){r:R α}{Q:β -> Hp->Prop}(h:bg jz G w r Q):bg jz G w1 r Q:=by
 cases r with
 |ok a S=>exact λw' H' b l hr rl=>h w' H' b (le.trans l) hr rl
 |ex n S=>exact tH.mono le h
 |ay=>exact h
theorem bg.az {α β γ δ:Type}{jz:Wd -> α -> β -> Prop}{agq:Wd -> γ -> δ -> Prop}{G:Gx}{w:Wd}{r:R α}{k:α -> Cs->R γ}{Q:δ -> Hp->Prop}(h:bg agq G w (r.az k) Q):
  bg jz G w r (λb H1=>∃w1 S1 a,w.le w1/\HR G w1 S1 H1/\jz w1 a b/\r = .ok a S1/\bg agq G w1 (k a S1) Q):=by
 cases r with
 |ok a S=>exact λw' H' b le hr rl=>⟨w',S,a,le,hr,rl,rfl,bg.wd le h⟩
 |ex n S=>exact h
 |ay=>exact h
noncomputable def bV (G:Gx)(w:Wd)(r:RS)(D:AF):Prop:=match r with
 |.nx τ S'=>∀w' H' dP,w.le w'->HR G w' S' H'->Sl w' τ dP->D.nx dP H'
 |.bk τ S'=>∀w' H' dP,w.le w'->HR G w' S' H'->Sl w' τ dP->D.bk dP H'
 |.ct τ S'=>∀w' H' dP,w.le w'->HR G w' S' H'->Sl w' τ dP->D.ct dP H'
 |.rt t S'=>∀w' H' v,w.le w'->HR G w' S' H'->RT w' t v->D.rt v H'
 |.ex n S'=>tH G w n S'
 |.ay=>False
theorem bV.wd {G:Gx}{w w1:Wd}(le:w.le w1){r:RS}{D:AF}(h:bV G w r D):bV G w1 r D:=by
 cases r with
 |nx τ S=>exact λw' H' b l hr rl=>h w' H' b (le.trans l) hr rl
 |bk τ S=>exact λw' H' b l hr rl=>h w' H' b (le.trans l) hr rl
 |ct τ S=>exact λw' H' b l hr rl=>h w' H' b (le.trans l) hr rl
 |rt τ S=>exact λw' H' b l hr rl=>h w' H' b (le.trans l) hr rl
 |ex n S=>exact tH.mono le h
 |ay=>exact h
noncomputable def R.bU {α:Type}(r:R α)(k:α -> Cs->RS):RS:=match r with|.ok a s=>k a s|.ex n s=>.ex n s|.ay=>.ay
theorem R.fN {α:Type}(a:α)(s:Cs)(k:α -> Cs->RS):(R.ok a s).bU k=k a s:=rfl
theorem R.Ru {α:Type}(n:Nat)(s:Cs)(k:α -> Cs->RS):(R.ex n s:R α).bU k = .ex n s:=rfl
theorem R.A6 {α:Type}(k:α -> Cs->RS):(R.ay:R α).bU k = .ay:=rfl
theorem bV.az {α β:Type}{jz:Wd -> α -> β -> Prop}{G:Gx}{w:Wd}{r:R α}{k:α -> Cs->RS}{D:AF}(h:bV G w (r.bU k) D):
  bg jz G w r (λb H1=>∃w1 S1 a,w.le w1/\HR G w1 S1 H1/\jz w1 a b/\r = .ok a S1/\bV G w1 (k a S1) D):=by
 cases r with
 |ok a S=>exact λw' H' b le hr rl=>⟨w',S,a,le,hr,rl,rfl,bV.wd le h⟩
 |ex n S=>exact h
 |ay=>exact h
structure jF (G:Gx) (k:Nat) (X:Cx):Prop where
 K:X.K=G.K
 fM:0<k->X.fM=true
 room:0<k->gP k X.A
 un:X.A.units+200<cLine
theorem jF.hu (o:jF G k X):X.A.units+100<cLine:=by have:=o.un;omega
theorem jF.hu1 (o:jF G k X):X.A.units+1<cLine:=by have:=o.hu;omega
noncomputable def fS (G:Gx)(f:Em):TE:=λσ H Q=>∃w S τ,HR G w S H/\Sl w τ σ /\ bg RT G w (f τ S) Q
noncomputable def A7 (G:Gx)(f:En->Cs->R Bool):TT:=λσ H Q=>∃w S τ,HR G w S H/\Sl w τ σ /\ bg (λ_ a b=>a=b) G w (f τ S) Q
noncomputable def DS (G:Gx)(f:En->Cs->R (List Tr)):TA:=λσ H Q=>∃w S τ,HR G w S H/\Sl w τ σ /\ bg bF G w (f τ S) Q
noncomputable def LV (G:Gx)(f:Sm):TS:=λD σ H=>∃w S τ,HR G w S H/\Sl w τ σ /\ bV G w (f τ S) D
noncomputable def ZX (G:Gx)(f:Tr->En->Cs->R En):TG:=λv σ H Q=>∃w S τ t,HR G w S H/\Sl w τ σ /\ RT w t v/\bg Sl G w (f t τ S) Q
structure TV (G:Gx) (k:Nat) (X:Cx) (e:Expr) (f:Em):Prop where
 ku:jF G k X->PE X e (fS G f)
noncomputable instance {G:Gx}{k:Nat}{X:Cx}{e:Expr}{f:Em}:CoeFun (TV G k X e f) (λ_=>jF G k X->PE X e (fS G f)):=⟨TV.ku⟩
structure A8 (G:Gx) (k:Nat) (X:Cx) (e:Expr) (f:En->Cs->R Bool):Prop where
 ku:jF G k X->PT X e (A7 G f)
noncomputable instance {G:Gx}{k:Nat}{X:Cx}{e:Expr}{f:En->Cs->R Bool}:CoeFun (A8 G k X e f) (λ_=>jF G k X->PT X e (A7 G f)):=⟨A8.ku⟩
structure Kd (G:Gx) (k:Nat) (X:Cx) (e:Expr) (f:En->Cs->R Bool):Prop where
 ku:jF G k X->PW X e (A7 G f)
noncomputable instance {G:Gx}{k:Nat}{X:Cx}{e:Expr}{f:En->Cs->R Bool}:CoeFun (Kd G k X e f) (λ_=>jF G k X->PW X e (A7 G f)):=⟨Kd.ku⟩
structure wI (G:Gx) (k:Nat) (X:Cx) (es:List Expr) (f:En->Cs->R (List Tr)):Prop where
 ku:jF G k X->PA X es (DS G f)
noncomputable instance {G:Gx}{k:Nat}{X:Cx}{es:List Expr}{f:En->Cs->R (List Tr)}:CoeFun (wI G k X es f) (λ_=>jF G k X->PA X es (DS G f)):=⟨wI.ku⟩
structure wJ (G:Gx) (k:Nat) (X:Cx) (st:Stmt) (f:Sm):Prop where
 ku:jF G k X->PS X st (LV G f)
noncomputable instance {G:Gx}{k:Nat}{X:Cx}{st:Stmt}{f:Sm}:CoeFun (wJ G k X st f) (λ_=>jF G k X->PS X st (LV G f)):=⟨wJ.ku⟩
structure F6 (G:Gx) (k:Nat) (X:Cx) (st:List Stmt) (f:Sm):Prop where
 ku:jF G k X->wg X st (LV G f)
noncomputable instance {G:Gx}{k:Nat}{X:Cx}{st:List Stmt}{f:Sm}:CoeFun (F6 G k X st f) (λ_=>jF G k X->wg X st (LV G f)):=⟨F6.ku⟩
structure IJ (G:Gx) (k:Nat) (X:Cx) (tg:Expr) (f:Tr->En->Cs->R En):Prop where
 ku:jF G k X->PG X tg (ZX G f)
noncomputable instance {G:Gx}{k:Nat}{X:Cx}{tg:Expr}{f:Tr->En->Cs->R En}:CoeFun (IJ G k X tg f) (λ_=>jF G k X->PG X tg (ZX G f)):=⟨IJ.ku⟩
section
variable {X:Cx}{e:Expr}{st:Stmt}{sts:List Stmt}{es:List Expr}
theorem PE.wk {t t':TE}(h:PE X e t)(g:∀ σ H Q,t' σ H Q->t σ H Q):PE X e t':=λah s σ H Q I q=>h ah s σ H Q I (g _ _ _ q)
theorem PT.wk {t t':TT}(h:PT X e t)(g:∀ σ H Q,t' σ H Q->t σ H Q):PT X e t':=λah s σ H Q I q=>h ah s σ H Q I (g _ _ _ q)
theorem PW.wk {t t':TT}(h:PW X e t)(g:∀ σ H Q,t' σ H Q->t σ H Q):PW X e t':=λwh ah s σ H Q I q=>h wh ah s σ H Q I (g _ _ _ q)
theorem PA.wk {t t':TA}(h:PA X es t)(g:∀ σ H Q,t' σ H Q->t σ H Q):PA X es t':=λpos ah s σ H Q I q=>h pos ah s σ H Q I (g _ _ _ q)
theorem PS.wk {t t':TS}(h:PS X st t)(g:∀D σ H,t' D σ H->t D σ H):PS X st t':=λah s σ H D I q=>h ah s σ H D I (g _ _ _ q)
theorem wg.wk {t t':TS}(h:wg X sts t)(g:∀D σ H,t' D σ H->t D σ H):wg X sts t':=λah s σ H D I q=>h ah s σ H D I (g _ _ _ q)
theorem PG.wk {t t':TG}(h:PG X e t)(g:∀v σ H Q,t' v σ H Q->t v σ H Q):PG X e t':=λah s σ H v u Q I r q=>h ah s σ H v u Q I r (g _ _ _ _ q)
end
noncomputable def dN:Expr->Bool|.Starred _ _=>true|_=>false
noncomputable def dh:List Expr->Bool|[]=>true|e::r=>!dN e && dh r
theorem di {e:Expr}{es:List Expr}{env:Env}(h:dN e=false):starEach (e::es) env=(false,eval e env)::starEach es env:=by
 cases e<;>first|rfl | (cases h;done)
theorem fX:∀{es:List Expr},dh es=true->(backTo pos (starEach es env)).any (·.1)=false
 |[],_=>rfl
 |e::es,h=>by
  have h:=zbw.mp (show (!dN e && dh es)=true from h)
  rw[di (by simpa using h.1)]
  show (false || (backTo pos (starEach es env)).any (·.1))=false
  rw[fX h.2];rfl
theorem A9:∀{es:List Expr},dh es=true->(backTo pos (starEach es env)).all (λx=>!x.1)=true
 |[],_=>rfl
 |e::es,h=>by
  have h:=zbw.mp (show (!dN e && dh es)=true from h)
  rw[di (by simpa using h.1)]
  show (true && (backTo pos (starEach es env)).all (λx=>!x.1))=true
  rw[A9 h.2];rfl
section
variable {G:Gx}{k:Nat}{X:Cx}{a b c:Expr}{fa fb fc:Em}{pos agg:Pos}
noncomputable def aa (i:Nat):Em:=λτ S=>match τ[i]? with|some (some t)=>.ok t S|_=>.ay
noncomputable def mC (t:Tr):Em:=λ_ S=>.ok t S
theorem c9 (i:Nat)(hN:X.N[i]? = some x:=by rfl)(hv:Vis X.env.scope x:=by first|exact Or.inl rfl|exact Or.inr (Or.inl rfl)|exact Or.inr (Or.inr rfl))(hd:(x == ("__debug__" : Str))=false:=by decide)
  (AG:(x == ("__classdict__" : Str))=false:=by decide):TV G k X (.Name x pos) (aa i):=.mk<|λ_=>(Ku hN hv hd AG).wk λσ H Q h=>by
 obtain⟨w,S,τ,hr,sl,q⟩:=h;unfold aa at q;split at q
 ·rename_i t e
  obtain⟨v,e2,r⟩:=sl.sM i t e;exact⟨v,e2,q w H v (.refl w) hr r⟩
 ·exact q.elim
theorem LW (h:PE X e (tC v))(r:∀w:Wd,w.K=G.K->RT w t v):TV G k X e (mC t):=.mk<|λ_=>h.wk λσ H Q h=>by
 obtain⟨w,S,τ,hr,sl,q⟩:=h;exact q w H v (.refl w) hr (r w hr.K)
theorem d_:RT w (.int i) (.int i):=by unfold RT;rfl
theorem kI:RT w (.str i) (.str i):=by unfold RT;rfl
theorem gq {w:Wd}{i:Bool}:RT w (.bl i) (.bl i):=by unfold RT;rfl
theorem qo:RT w .bw .bw:=by unfold RT;rfl
theorem ZY {i j pos}:TV G k X (.Constant (.int i) j pos) (mC (.int i)):=LW Yr λ_ _=>d_
theorem xE {i j pos}:TV G k X (.Constant (.bool i) j pos) (mC (.bl i)):=LW aeU λ_ _=>gq
theorem ZZ {i j pos}:TV G k X (.Constant (.str i) j pos) (mC (.str i)):=LW Yt λ_ _=>kI
theorem DT {j pos}:TV G k X (.Constant .none j pos) (mC .bw):=LW Ys λ_ _=>qo
theorem cH (hm:X.mg x=some (.int i tk))(hg:Gl X x:=by rfl)(hd:(x == ("__debug__" : Str))=false:=by decide):TV G k X (.Name x pos) (mC (.int i)):=LW (Qf (v:=.int i) hg hm ⟨_,rfl⟩ hd) λ_ _=>d_
noncomputable def ai (g:Tr->Tr->Cs->R Tr)(fa fb:Em):Em:=λτ S=>(fa τ S).az λt1 S1=>(fb τ S1).az λt2 S2=>g t1 t2 S2
noncomputable def P5 (g:Tr->Cs->R Tr)(fa:Em):Em:=λτ S=>(fa τ S).az λt1 S1=>g t1 S1
noncomputable def r2 (G:Gx)(g:Tr->Tr->Cs->R Tr):R2:=λx y H Q=>∃w S t1 t2,HR G w S H/\RT w t1 x/\RT w t2 y/\bg RT G w (g t1 t2 S) Q
noncomputable def r1 (G:Gx)(g:Tr->Cs->R Tr):V->Hp->VK->Prop:=λx H Q=>∃w S t1,HR G w S H/\RT w t1 x/\bg RT G w (g t1 S) Q
theorem nX {g:Tr->Tr->Cs->R Tr}{σ:St}{H:Hp}{Q:VK}(h:fS G (ai g fa fb) σ H Q):tOp (r2 G g) (fS G fa) (fS G fb) σ H Q:=by
 obtain⟨w,S,τ,hr,sl,q⟩:=h;refine⟨w,S,τ,hr,sl,(bg.az q).mono λx H1 b9=>?_⟩
 obtain⟨w1,S1,t1,cW,bL,r1,_,q1⟩:=b9;exact⟨w1,S1,τ,bL,sl.mono cW,(bg.az q1).mono λy H2 cZ=>by obtain⟨w2,S2,t2,eW,dG,r2,_,q2⟩:=cZ;exact⟨w2,S2,t1,t2,dG,RT.mono eW _ _ r1,r2,q2⟩⟩
structure nh (G:Gx) (k:Nat) (f:Value->Value->Sem Value) (g:Tr->Tr->Cs->R Tr):Prop where
 ku:∀X:Cx,jF G k X->jQ X f (r2 G g)
noncomputable instance {G:Gx}{k:Nat}{f:Value->Value->Sem Value}{g:Tr->Tr->Cs->R Tr}:CoeFun (nh G k f g) (λ_=>∀X:Cx,jF G k X->jQ X f (r2 G g)):=⟨nh.ku⟩
theorem LX (ho:nh G k (binaryOp op) g)(ha:TV G k X a fa)(hb:TV G k X b fb):TV G k X (.BinOp a op b pos) (ai g fa fb):=.mk<|λo =>
 (afa (ho X o) (ha o) (hb o)).wk λ_ _ _ h=>nX h
theorem agr {op:UnaryOp}{g:Tr->Cs->R Tr}(ho:∀X:Cx,jF G k X->UnR X (unaryOp op) (r1 G g))(ha:TV G k X a fa):TV G k X (.UnaryOp op a pos) (P5 g fa):=.mk<|λo =>
 (afb (ho X o) (ha o)).wk λσ H Q h=>by
  obtain⟨w,S,τ,hr,sl,q⟩:=h;exact⟨w,S,τ,hr,sl,(bg.az q).mono λx H1 dF=>by obtain⟨w1,S1,t1,cW,bL,r1,_,q1⟩:=dF;exact⟨w1,S1,t1,bL,r1,q1⟩⟩
theorem jb (ho:nh G k (compareOp op) g)(ha:TV G k X a fa)(hb:TV G k X b fb)(hm:behindInMarks op b=false):TV G k X (.Compare a [op] [b] pos) (ai g fa fb):=.mk<|λo =>
 (Qt (ho X o) (ha o) (hb o) hm).wk λ_ _ _ h=>nX h
noncomputable def mE (g g':Tr->Tr->Cs->R Tr)(fa fb fc:Em):Em:=λτ S=>(fa τ S).az λt1 S1=>(fb τ S1).az λt2 S2=>(g t1 t2 S2).az λz S3=>match z with
 |.bl true=>(fc τ S3).az λt3 S4=>g' t2 t3 S4
 |.bl false=>.ok (.bl false) S3
 |_=>.ay
theorem A_ {g g':Tr->Tr->Cs->R Tr}{σ:St}{H:Hp}{Q:VK}(h:fS G (mE g g' fa fb fc) σ H Q):Dh (r2 G g) (r2 G g') (fS G fa) (fS G fb) (fS G fc) σ H Q:=by
 obtain⟨w,S,τ,hr,sl,q⟩:=h;refine⟨w,S,τ,hr,sl,(bg.az q).mono λx H1 mj=>?_⟩
 obtain⟨w1,S1,t1,cW,bL,r1,_,q1⟩:=mj;refine⟨w1,S1,τ,bL,sl.mono cW,(bg.az q1).mono λy H2 jV=>?_⟩
 obtain⟨w2,S2,t2,eW,dG,r2,_,q2⟩:=jV;refine⟨w2,S2,t1,t2,dG,RT.mono eW _ _ r1,r2,(bg.az q2).mono λz H3 mq=>?_⟩
 obtain⟨w3,S3,t3,i7,mG,r3,_,q3⟩:=mq;split at q3
 ·unfold RT at r3
  subst r3;refine⟨true,rfl,ze ⟨w3,S3,τ,mG,(sl.mono cW).mono (eW.trans i7),(bg.az q3).mono λu H4 iy=>by obtain⟨w4,S4,t4,LY,Ke,r4,_,q4⟩:=iy;exact⟨w4,S4,t2,t4,Ke,RT.mono (i7.trans LY) _ _ r2,r4,q4⟩⟩⟩
 ·unfold RT at r3
  subst r3;exact⟨false,rfl,zd (q3 w3 H3 _ (.refl _) mG gq)⟩
 ·exact q3.elim
theorem LZ (ho:nh G k (compareOp op) g)(rC:nh G k (compareOp KO) g')(ha:TV G k X a fa)(hb:TV G k X b fb)(hc:TV G k X c fc)(hm:lastMarks [op,KO] [b,c]=false:=by with_unfolding_all rfl):
  TV G k X (.Compare a [op,KO] [b,c] pos) (mE g g' fa fb fc):=.mk<|λo=>(KN (ho X o) (rC X o) (ha o) (hb o) (hc o) hm).wk λ_ _ _ h=>A_ h
noncomputable def mB (f:Em):En->Cs->R Bool:=λτ S=>(f τ S).az λt S1=>match t with|.bl b=>.ok b S1|_=>.ay
theorem rY {f:Em}{σ:St}{H:Hp}{Q:Bool->Hp->Prop}(h:A7 G (mB f) σ H Q):fS G f σ H λx H1=>∃c,x = .bl c/\Q c H1:=by
 obtain⟨w,S,τ,hr,sl,q⟩:=h;refine⟨w,S,τ,hr,sl,(bg.az q).mono λx H1 jc=>?_⟩
 obtain⟨w1,S1,t1,cW,bL,r1,_,q1⟩:=jc;split at q1
 ·unfold RT at r1
  subst r1;exact⟨_,rfl,q1 w1 H1 _ (.refl _) bL rfl⟩
 ·exact q1.elim
theorem tK (h:TV G k X e f)(he:∀sH,isTrue e X.env sH=(do let v <-sH;standAt e.pos;holding [v] (truthy v)):=by intro _;rfl):A8 G k X e (mB f):=.mk<|λo=>(Yw (h o) he).wk λ_ _ _ h=>rY h
theorem gC (ho:nh G k (compareOp op) g)(ha:TV G k X a fa)(hb:TV G k X b fb)(hm:behindInMarks op b=false):A8 G k X (.Compare a [op] [b] pos) (mB (ai g fa fb)):=.mk<|λo =>
 (Qu (ho X o) (ha o) (hb o) hm).wk λ_ _ _ h=>nX (rY h)
theorem Ba (ho:nh G k (compareOp op) g)(rC:nh G k (compareOp KO) g')(ha:TV G k X a fa)(hb:TV G k X b fb)(hc:TV G k X c fc)(hm:lastMarks [op,KO] [b,c]=false:=by with_unfolding_all rfl):
  A8 G k X (.Compare a [op,KO] [b,c] pos) (mB (mE g g' fa fb fc)):=.mk<|λo=>(KP (ho X o) (rC X o) (ha o) (hb o) (hc o) hm).wk λ_ _ _ h=>A_ (rY h)
variable {ta tb:En->Cs->R Bool}{cX:List Expr}
noncomputable def jG (ta tb:En->Cs->R Bool):En->Cs->R Bool:=λτ S=>(ta τ S).az λx S1=>if x=true then tb τ S1 else .ok false S1
noncomputable def DU (ta tb:En->Cs->R Bool):En->Cs->R Bool:=λτ S=>(ta τ S).az λx S1=>if x=true then .ok true S1 else tb τ S1
noncomputable def wK (ta:En->Cs->R Bool):En->Cs->R Bool:=λτ S=>(ta τ S).az λx S1=>.ok (!x) S1
theorem L1 (ha:A8 G k X a ta):A8 G k X (.UnaryOp .Not a pos) (wK ta):=.mk<|λo=>(Yz (ha o)).wk λσ H Q h=>by
 obtain⟨w,S,τ,hr,sl,q⟩:=h;refine⟨w,S,τ,hr,sl,(bg.az q).mono λx H1 Bb=>?_⟩
 obtain⟨w1,S1,t1,cW,bL,r1,_,q1⟩:=Bb;subst r1;exact q1 w1 H1 _ (.refl _) bL rfl
theorem Rv (ha:A8 G k X a ta):Kd G k X (.BoolOp .And [a] pos) ta:=.mk<|λo=>Qh (ha o)
theorem L4 (ha:A8 G k X a ta):Kd G k X (.BoolOp .Or [a] pos) ta:=.mk<|λo=>Yx (ha o)
theorem Z0 (ha:A8 G k X a ta)(hb:Kd G k X (.BoolOp .And (b::cX) pos) tb):Kd G k X (.BoolOp .And (a::b::cX) pos) (jG ta tb):=.mk<|λo=>(Yy (ha o) (hb o)).wk λσ H Q h=>by
 obtain⟨w,S,τ,hr,sl,q⟩:=h;refine⟨w,S,τ,hr,sl,(bg.az q).mono λx H1 o8=>?_⟩
 obtain⟨w1,S1,t1,cW,bL,r1,_,q1⟩:=o8;subst r1;cases t1 with
 |true=>rw[if_pos rfl] at q1;exact ze ⟨w1,S1,τ,bL,sl.mono cW,q1⟩
 |false=>rw[if_neg zag] at q1;exact zd (q1 w1 H1 _ (.refl _) bL rfl)
theorem U9 (ha:A8 G k X a ta)(hb:Kd G k X (.BoolOp .Or (b::cX) pos) tb):Kd G k X (.BoolOp .Or (a::b::cX) pos) (DU ta tb):=.mk<|λo=>(aeV (ha o) (hb o)).wk λσ H Q h=>by
 obtain⟨w,S,τ,hr,sl,q⟩:=h;refine⟨w,S,τ,hr,sl,(bg.az q).mono λx H1 kJ=>?_⟩
 obtain⟨w1,S1,t1,cW,bL,r1,_,q1⟩:=kJ;subst r1;cases t1 with
 |true=>rw[if_pos rfl] at q1;exact ze (q1 w1 H1 _ (.refl _) bL rfl)
 |false=>rw[if_neg zag] at q1;exact zd ⟨w1,S1,τ,bL,sl.mono cW,q1⟩
theorem Kd.t (h:Kd G k X e ta):A8 G k X e ta:=.mk<|λo=>(h o).pt
noncomputable def kK (fa fb:Em):Em:=λτ S=>(fa τ S).az λt S1=>match t with|.bl true=>fb τ S1|.bl false=>.ok (.bl false) S1|_=>.ay
noncomputable def U_ (fa fb:Em):Em:=λτ S=>(fa τ S).az λt S1=>match t with|.bl true=>.ok (.bl true) S1|.bl false=>fb τ S1|_=>.ay
noncomputable def IK (fa:Em):Em:=λτ S=>(fa τ S).az λt S1=>match t with|.bl b=>.ok (.bl (!b)) S1|_=>.ay
noncomputable def DW (ta:En->Cs->R Bool)(fa fb:Em):Em:=λτ S=>(ta τ S).az λx S1=>if x=true then fa τ S1 else fb τ S1
theorem DX {op}(h:TV G k X a fa):TV G k X (.BoolOp op [a] pos) fa:=.mk<|λo=>YA (h o)
theorem zm (ha:TV G k X a fa)(hb:TV G k X (.BoolOp .And (b::cX) pos) fb):TV G k X (.BoolOp .And (a::b::cX) pos) (kK fa fb):=.mk<|λo=>(YB (ha o) (hb o)).wk λσ H Q h=>by
 obtain⟨w,S,τ,hr,sl,q⟩:=h;refine⟨w,S,τ,hr,sl,(bg.az q).mono λx H1 tL=>?_⟩
 obtain⟨w1,S1,t1,cW,bL,r1,_,q1⟩:=tL;split at q1
 ·unfold RT at r1;subst r1;exact⟨true,rfl,ze ⟨w1,S1,τ,bL,sl.mono cW,q1⟩⟩
 ·unfold RT at r1;subst r1;exact⟨false,rfl,zd (q1 w1 H1 _ (.refl _) bL gq)⟩
 ·exact q1.elim
theorem ags (ha:TV G k X a fa)(hb:TV G k X (.BoolOp .Or (b::cX) pos) fb):TV G k X (.BoolOp .Or (a::b::cX) pos) (U_ fa fb):=.mk<|λo=>(aeY (ha o) (hb o)).wk λσ H Q h=>by
 obtain⟨w,S,τ,hr,sl,q⟩:=h;refine⟨w,S,τ,hr,sl,(bg.az q).mono λx H1 kL=>?_⟩
 obtain⟨w1,S1,t1,cW,bL,r1,_,q1⟩:=kL;split at q1
 ·unfold RT at r1;subst r1;exact⟨true,rfl,ze (q1 w1 H1 _ (.refl _) bL gq)⟩
 ·unfold RT at r1;subst r1;exact⟨false,rfl,zd ⟨w1,S1,τ,bL,sl.mono cW,q1⟩⟩
 ·exact q1.elim
theorem DY (ha:TV G k X a fa):TV G k X (.UnaryOp .Not a pos) (IK fa):=.mk<|λo=>(YC (ha o)).wk λσ H Q h=>by
 obtain⟨w,S,τ,hr,sl,q⟩:=h;refine⟨w,S,τ,hr,sl,(bg.az q).mono λx H1 kM=>?_⟩
 obtain⟨w1,S1,t1,cW,bL,r1,_,q1⟩:=kM;split at q1
 ·unfold RT at r1;subst r1;exact⟨_,rfl,q1 w1 H1 _ (.refl _) bL gq⟩
 ·exact q1.elim
theorem Z1 (hc:A8 G k X c ta)(ha:TV G k X a fa)(hb:TV G k X b fb):TV G k X (.IfExp c a b pos) (DW ta fa fb):=.mk<|λo=>(Kw (hc o) (ha o) (hb o)).wk λσ H Q h=>by
 obtain⟨w,S,τ,hr,sl,q⟩:=h;refine⟨w,S,τ,hr,sl,(bg.az q).mono λx H1 nY=>?_⟩
 obtain⟨w1,S1,t1,cW,bL,r1,_,q1⟩:=nY;subst r1;cases t1 with
 |true=>rw[if_pos rfl] at q1;exact ze ⟨w1,S1,τ,bL,sl.mono cW,q1⟩
 |false=>rw[if_neg zag] at q1;exact zd ⟨w1,S1,τ,bL,sl.mono cW,q1⟩
noncomputable def aj:En->Cs->R (List Tr):=λ_ S=>.ok [] S
noncomputable def af (f:Em)(r:En->Cs->R (List Tr)):En->Cs->R (List Tr):=λτ S=>(f τ S).az λt S1=>(r τ S1).az λts S2=>.ok (t::ts) S2
theorem tM:wI G k X [] aj:=.mk<|λ_=>Dp.wk λσ H Q h=>by
 obtain⟨w,S,τ,hr,sl,q⟩:=h;exact q w H [] (.refl w) hr .nil
theorem kN (ha:TV G k X e f)(hr:wI G k X es fr)(hs:dN e=false:=by rfl):wI G k X (e::es) (af f fr):=.mk<|λo=>(oS (ha o) (hr o) (di hs)).wk λσ H Q h=>by
 obtain⟨w,S,τ,hr,sl,q⟩:=h;refine⟨w,S,τ,hr,sl,(bg.az q).mono λx H1 kO=>?_⟩
 obtain⟨w1,S1,t1,cW,bL,r1,_,q1⟩:=kO;refine⟨w1,S1,τ,bL,sl.mono cW,(bg.az q1).mono λxs H2 tN=>?_⟩
 obtain⟨w2,S2,ts,eW,dG,r2,_,q2⟩:=tN;exact q2 w2 H2 _ (.refl _) dG (.cons (RT.mono eW _ _ r1) r2)
noncomputable def dO (fr:En->Cs->R (List Tr)):Em:=λτ S=>(fr τ S).az λts S1=>if ts.length<=sizeLine then .ok (.tp ts) S1 else .ay
noncomputable def jH (fr:En->Cs->R (List Tr)):Em:=λτ S=>(fr τ S).az λts S1=>if ts.length<=sizeLine then .ok (.ls ts) S1 else .ay
noncomputable def o9 (fr:En->Cs->R (List Tr)):Em:=λτ S=>(fr τ S).az λts S1=>if ts.length<=sizeLine then .ok (.hd S1.length) (S1++[.aV ts]) else .ay
theorem HR.Rw {w:Wd}{S:Cs}{H:Hp}{ts:List Tr}{xs:List V}(hr:HR G w S H)(r:bF w ts xs){Q:VK}{S':Cs}(hS:S'=S)(q:bg RT G w (.ok (.tp ts) S') Q):∀p,H p=none->Q (.ref p) (br H p (.gp xs)):=λp hp=>by
 subst hS;obtain⟨h2,le⟩:=hr.ZT hp (.gp xs)
 refine q _ _ _ le h2 ?_
 unfold RT;exact⟨p,xs,rfl,av,bF.mono le _ _ r⟩
theorem HR.jd {w:Wd}{S:Cs}{H:Hp}{ts:List Tr}{xs:List V}(hr:HR G w S H)(r:bF w ts xs){Q:VK}{S':Cs}(hS:S'=S)(q:bg RT G w (.ok (.ls ts) S') Q):∀p,H p=none->Q (.ref p) (br H p (.aV xs)):=λp hp=>by
 subst hS;obtain⟨h2,le⟩:=hr.ZT hp (.aV xs)
 refine q _ _ _ le h2 ?_
 unfold RT;exact⟨p,xs,rfl,av,bF.mono le _ _ r⟩
theorem HR.alI {w:Wd}{S:Cs}{H:Hp}{ts:List Tr}{xs:List V}(hr:HR G w S H)(r:bF w ts xs){Q:VK}{S':Cs}{n:Nat}(hS:S'=S++[.aV ts])(hn:n=S.length)(q:bg RT G w (.ok (.hd n) S') Q):∀p,H p=none->Q (.ref p) (br H p (.aV xs)):=λp hp=>by
 subst hS hn;obtain⟨h2,le⟩:=hr.II (c:=.aV ts) hp (o:=.aV xs) rfl ⟨xs,av,bF.mono (w.tG p) _ _ r⟩
 refine q _ _ _ le h2 ?_
 unfold RT;refine⟨by rw[<-hr.n];exact zbh _,?_⟩
 show V.ref p=V.ref (if S.length=w.n then p else w.ρ S.length)
 rw[if_pos hr.n.symm]
theorem Z2 {x1}(h:wI G k X es fr):TV G k X (.Tuple es x1 pos) (dO fr):=.mk<|λo=>(Y5 (h o)).wk λσ H Q h=>by
 obtain⟨w,S,τ,hr,sl,q⟩:=h;refine⟨w,S,τ,hr,sl,(bg.az q).mono λxs H1 tO=>?_⟩
 obtain⟨w1,S1,ts,cW,bL,r1,_,q1⟩:=tO;split at q1
 ·exact⟨by rw[r1.len];assumption,bL.Rw r1 rfl q1⟩
 ·exact q1.elim
theorem Z3 (h:wI G k X es fr):TV G k X (.List es pos) (jH fr):=.mk<|λo=>(KW (h o)).wk λσ H Q h=>by
 obtain⟨w,S,τ,hr,sl,q⟩:=h;refine⟨w,S,τ,hr,sl,(bg.az q).mono λxs H1 DZ=>?_⟩
 obtain⟨w1,S1,ts,cW,bL,r1,_,q1⟩:=DZ;split at q1
 ·exact⟨by rw[r1.len];assumption,bL.jd r1 rfl q1⟩
 ·exact q1.elim
theorem Rx (h:wI G k X es fr):TV G k X (.List es pos) (o9 fr):=.mk<|λo=>(KW (h o)).wk λσ H Q h=>by
 obtain⟨w,S,τ,hr,sl,q⟩:=h;refine⟨w,S,τ,hr,sl,(bg.az q).mono λxs H1 Z4=>?_⟩
 obtain⟨w1,S1,ts,cW,bL,r1,_,q1⟩:=Z4;split at q1
 ·exact⟨by rw[r1.len];assumption,bL.alI r1 rfl rfl q1⟩
 ·exact q1.elim
end
noncomputable def cO (S:Cs)(n:Nat):Option (List Tr):=match S[n]? with|some (.aV l)=>some l|_=>none
noncomputable def mH (S:Cs)(n:Nat):Option (List (dz×Tr)):=match S[n]? with|some (.gQ l)=>some l|_=>none
noncomputable def iO (S:Cs)(n:Nat):Option (Str×List (Str×Tr)):=match S[n]? with|some (.fE c l)=>some (c,l)|_=>none
theorem cA (h:cO S n=some l):S[n]? = some (.aV l):=by
 unfold cO at h;split at h
 ·cases h;assumption
 ·cases h
theorem gY (h:mH S n=some l):S[n]? = some (.gQ l):=by
 unfold mH at h;split at h
 ·cases h;assumption
 ·cases h
theorem fG (h:iO S n=some (c,l)):S[n]? = some (.fE c l):=by
 unfold iO at h;split at h
 ·cases h;assumption
 ·cases h
noncomputable def D0 (S:Cs):Tr->Option (List Tr)
 |.ls l=>some l
 |.hd n=>cO S n
 |_=>none
noncomputable def vW (S:Cs):Tr->Option (List Tr)
 |.ls l=>some l
 |.kl l=>some l
 |.hd n=>cO S n
 |_=>none
noncomputable def Kf:Tr->Option (List Tr)
 |.tp l=>some l
 |.kt l=>some l
 |_=>none
noncomputable def zo (S:Cs):Tr->Option (List Tr)
 |.tp l=>some l
 |.kt l=>some l
 |.ls l=>some l
 |.kl l=>some l
 |.hd n=>cO S n
 |_=>none
noncomputable def F7 (S:Cs):Tr->Option (List (dz×Tr))
 |.hd n=>mH S n
 |_=>none
theorem RT.cT (r:RT w (.hd n) v):n<w.n/\v = .ref (w.ρ n):=by unfold RT at r;exact r
theorem qp (hr:HR G w S H)(r:RT w t v)(e:D0 S t=some l):∃a xs,v = .ref a/\H a=some (.aV xs)/\bF w l xs:=by
 cases t with
 |ls m =>
  cases e;unfold RT at r;obtain⟨a,xs,rfl,h,r⟩:=r;exact⟨a,xs,rfl,hr.sub _ _ h,r⟩
 |hd n =>
  obtain⟨xs,h1,h2⟩:=hr.cell n _ (cA e)
  exact⟨_,xs,r.cT.2,h1,h2⟩
 |_=>cases e
theorem iG (hr:HR G w S H)(r:RT w t v)(e:vW S t=some l):∃a xs,v = .ref a/\i6 G.K H a xs/\bF w l xs:=by
 cases t with
 |ls m =>
  cases e;unfold RT at r;obtain⟨a,xs,rfl,h,r⟩:=r;exact⟨a,xs,rfl,i6.of (hr.sub _ _ h),r⟩
 |kl m =>
  cases e;unfold RT at r;obtain⟨a,xs,rfl,h,r⟩:=r;exact⟨a,xs,rfl,hr.sqL h,r⟩
 |hd n =>
  obtain⟨xs,h1,h2⟩:=hr.cell n _ (cA e)
  exact⟨_,xs,r.cT.2,i6.of h1,h2⟩
 |_=>cases e
theorem gZ (hr:HR G w S H)(r:RT w t v)(e:Kf t=some l):∃a xs,v = .ref a/\oM G.K H a xs/\bF w l xs:=by
 cases t with
 |tp m =>
  cases e;unfold RT at r;obtain⟨a,xs,rfl,h,r⟩:=r;exact⟨a,xs,rfl,oM.of (hr.sub _ _ h),r⟩
 |kt m =>
  cases e;unfold RT at r;obtain⟨a,xs,rfl,h,r⟩:=r;exact⟨a,xs,rfl,hr.sqT h,r⟩
 |_=>cases e
theorem tP (hr:HR G w S H)(r:RT w t v)(e:zo S t=some l):∃a xs,v = .ref a/\(i6 G.K H a xs\/oM G.K H a xs)/\bF w l xs:=by
 cases t with
 |ls m=>obtain⟨a,xs,h1,h2,h3⟩:=iG hr r (l:=l) (e);exact⟨a,xs,h1,.inl h2,h3⟩
 |kl m=>obtain⟨a,xs,h1,h2,h3⟩:=iG hr r (l:=l) (e);exact⟨a,xs,h1,.inl h2,h3⟩
 |hd n=>obtain⟨a,xs,h1,h2,h3⟩:=iG hr r (l:=l) (e);exact⟨a,xs,h1,.inl h2,h3⟩
 |tp m=>obtain⟨a,xs,h1,h2,h3⟩:=gZ hr r (l:=l) (e);exact⟨a,xs,h1,.inr h2,h3⟩
 |kt m=>obtain⟨a,xs,h1,h2,h3⟩:=gZ hr r (l:=l) (e);exact⟨a,xs,h1,.inr h2,h3⟩
 |_=>cases e
theorem tQ (hr:HR G w S H)(r:RT w t v)(e:F7 S t=some m):∃n aJ,t = .hd n/\S[n]? = some (.gQ m)/\v = .ref (w.ρ n)/\H (w.ρ n)=some (.dK aJ)/\RK w m aJ:=by
 cases t with
 |hd n =>
  obtain⟨xs,h1,h2⟩:=hr.cell n _ (gY e)
  exact⟨n,xs,rfl,gY e,r.cT.2,h1,h2⟩
 |_=>cases e
theorem bF.iS (h:bF w l xs)(e:L2.iS l i=some t):∃v,L2.iS xs i=some v/\RT w t v:=by
 unfold L2.iS at e ⊢
 rw[h.len];cases q:CZ l.length i with
 |none=>rw[q] at e;cases e
 |some j=>rw[q] at e;exact h.get e
noncomputable def c_:Tr->Tr->Cs->R Tr:=λt1 t2 S=>match t1,t2 with
 |.int i,.int j=>.ok (.int (i+j)) S
 |.str a,.str b=>if a.length+b.length<=sizeLine then .ok (.str (a++b)) S else .ay
 |.tp a,.tp b=>if a.isEmpty=false/\a.length+b.length<=sizeLine then .ok (.tp (a++b)) S else .ay
 |t1,t2=>match D0 S t1,D0 S t2 with
  |some a,some b=>if a.length+b.length<=sizeLine then .ok (.ls (a++b)) S else .ay
  |_,_=>.ay
noncomputable def gI (g:Int->Int->Tr):Tr->Tr->Cs->R Tr:=λt1 t2 S=>match t1,t2 with
 |.int i,.int j=>.ok (g i j) S
 |_,_=>.ay
noncomputable def Kg (c:Int->Int->Bool)(g:Int->Int->Tr):Tr->Tr->Cs->R Tr:=λt1 t2 S=>match t1,t2 with
 |.int i,.int j=>if c i j=true then .ok (g i j) S else .ay
 |_,_=>.ay
noncomputable abbrev dw:=gI λi j=>.int (i - j)
noncomputable abbrev Ry:=Kg (λ_ j=>decide (0<j/\j<1073741824)) λi j=>.int (i / j)
noncomputable abbrev qt:=Kg (λ_ j=>decide (0<j)) λi j=>.int (i % j)
noncomputable def tR:Tr->Tr->Cs->R Tr:=λt1 t2 S=>match t1,t2 with
 |.int i,.int j=>wH ((-(2 ^ 64)<i/\i<2 ^ 64)\/(-(2 ^ 64)<j/\j<2 ^ 64)) (.ok (.int (i * j)) S) .ay
 |.str a,.int n=>if 0<=n/\n<1000000/\a.length * n.toNat<=1000000 then .ok (.str (o4 a n.toNat)) S else .ay
 |_,_=>.ay
noncomputable abbrev Kh:=gI λi j=>.bl (decide (i<j))
noncomputable abbrev gLe:=gI λi j=>.bl (decide (i<=j))
noncomputable abbrev Z5:=gI λi j=>.bl (decide (j<i))
noncomputable abbrev gGe:=gI λi j=>.bl (decide (j<=i))
noncomputable def rK:Tr->Cs->R Tr:=λt S=>match t with|.int i=>.ok (.int (-i)) S|_=>.ay
theorem aK (r:RT w (.int i) v):v = .int i:=by unfold RT at r;exact r
theorem bZ (r:RT w (.str i) v):v = .str i:=by unfold RT at r;exact r
theorem j6 (r:RT w (.bl i) v):v = .bl i:=by unfold RT at r;exact r
theorem je (r:RT w .bw v):v = .bw:=by unfold RT at r;exact r
theorem Bc (h:∀X:Cx,jF G k X->jQ X f (Qo gv))(rg:∀(w:Wd) i j,RT w (g i j) (gv i j)):nh G k f (gI g):=.mk<|λX o ah s σ H x y v u Q I rx ry b9=>by
 obtain⟨w,S,t1,t2,hr,r1,r2,q⟩:=b9;unfold gI at q;split at q
 ·exact h X o ah s σ H x y v u Q I rx ry ⟨_,_,aK r1,aK r2,q w H _ (.refl w) hr (rg _ _ _)⟩
 ·exact q.elim
theorem L5 (h:∀X:Cx,jF G k X->jQ X f (rI C gv))(hc:∀i j,c i j=true->C i j)(rg:∀(w:Wd) i j,RT w (g i j) (gv i j)):nh G k f (Kg c g):=.mk<|λX o ah s σ H x y v u Q I rx ry cZ=>by
 obtain⟨w,S,t1,t2,hr,r1,r2,q⟩:=cZ;unfold Kg at q;split at q
 ·split at q
  ·exact h X o ah s σ H x y v u Q I rx ry ⟨_,_,aK r1,aK r2,hc _ _ (by assumption),q w H _ (.refl w) hr (rg _ _ _)⟩
  ·exact q.elim
 ·exact q.elim
theorem agu:nh G k (binaryOp .Sub) dw:=Bc (λX _=>YT) λ_ _ _=>d_
theorem agv:nh G k (binaryOp .FloorDiv) Ry:=L5 (λX _=>Qq) (λi j h=>(of_decide_eq_true h:0<j/\j<1073741824)) λ_ _ _=>d_
theorem agw:nh G k (binaryOp .Mod) qt:=L5 (λX _=>YV) (λi j h=>of_decide_eq_true h) λ_ _ _=>d_
theorem L6:nh G k (compareOp .Lt) Kh:=Bc (λX _=>afg) λ_ _ _=>gq
theorem L7:nh G k (compareOp .LtE) gLe:=Bc (λX _=>afh) λ_ _ _=>gq
theorem agx:nh G k (compareOp .Gt) Z5:=Bc (λX _=>afi) λ_ _ _=>gq
theorem agy:nh G k (compareOp .GtE) gGe:=Bc (λX _=>afj) λ_ _ _=>gq
theorem agz:nh G k (binaryOp .Mult) tR:=.mk<|λX o ah s σ H x y v u Q I rx ry dF=>by
 obtain⟨w,S,t1,t2,hr,r1,r2,q⟩:=dF;unfold tR at q;split at q
 ·unfold wH at q
  split at q
  ·exact YU ah s σ H x y v u Q I rx ry ⟨_,_,aK r1,aK r2,(by assumption),q w H _ (.refl w) hr d_⟩
  ·exact q.elim
 ·split at q
  ·rename_i h
   exact DI ah s σ H x y v u Q I rx ry ⟨_,_,bZ r1,aK r2,h.1,h.2.1,h.2.2,q w H _ (.refl w) hr kI⟩
  ·exact q.elim
 ·exact q.elim
theorem agA:nh G k (binaryOp .Add) c_:=.mk<|λX o ah s σ H x y v u Q I rx ry mj=>by
 obtain⟨w,S,t1,t2,hr,r1,r2,q⟩:=mj;unfold c_ at q;split at q
 ·exact YS ah s σ H x y v u Q I rx ry ⟨_,_,aK r1,aK r2,q w H _ (.refl w) hr d_⟩
 ·split at q
  ·exact Di ah s σ H x y v u Q I rx ry ⟨_,_,bZ r1,bZ r2,(by assumption),q w H _ (.refl w) hr kI⟩
  ·exact q.elim
 ·split at q
  ·rename_i a b h
   obtain⟨p,xs,e1,s1,R1⟩:=gZ hr r1 (l:=a) rfl
   obtain⟨p2,ys,e2,s2,R2⟩:=gZ hr r2 (l:=b) rfl
   rw[<-o.K] at s1 s2;refine QU ah s σ H x y v u Q I rx ry ⟨p,p2,xs,ys,e1,e2,s1,s2,?_,by rw[R1.len,R2.len];exact h.2,λz=>?_,λz=>hr.Rw (R1.rJ R2) rfl q⟩
   ·intro z
    have:=R1.len
    rw[z] at this;have h1:=h.1;cases a with
    |nil=>simp at h1
    |cons _ _=>simp at this
   ·have hb:b=[]:=by
     have:=R2.len
     rw[z] at this;cases b with
     |nil=>rfl
     |cons _ _=>simp at this
    subst hb;rw[zaw] at q;rw[<-e1];exact q w H _ (.refl w) hr r1
  ·exact q.elim
 ·split at q
  ·rename_i a b ea eb
   split at q
   ·obtain⟨p,xs,e1,s1,R1⟩:=qp hr r1 ea
    obtain⟨p2,ys,e2,s2,R2⟩:=qp hr r2 eb;exact Zm ah s σ H x y v u Q I rx ry ⟨p,p2,xs,ys,e1,e2,s1,s2,by rw[R1.len,R2.len];assumption,hr.jd (R1.rJ R2) rfl q⟩
   ·exact q.elim
  ·exact q.elim
theorem agB:∀X:Cx,jF G k X->UnR X (unaryOp .USub) (r1 G rK):=λX o ah s σ H x v Q I rx mq=>by
 obtain⟨w,S,t1,hr,r1,q⟩:=mq;unfold rK at q;split at q
 ·exact YW ah s σ H x v Q I rx ⟨_,aK r1,q w H _ (.refl w) hr d_⟩
 ·exact q.elim
noncomputable def L8:Tr->Tr->Option Bool
 |.int i,.int j=>some (decide (i=j))
 |.str i,.str j=>some (decide (i=j))
 |.bl i,.bl j=>some (i == j)
 |.bw,.bw=>some true
 |.bw,.int _=>some false
 |.int _,.bw=>some false
 |.bw,.bl _=>some false
 |.bl _,.bw=>some false
 |.bw,.str _=>some false
 |.str _,.bw=>some false
 |.int _,.str _=>some false
 |.str _,.int _=>some false
 |.bl _,.str _=>some false
 |.str _,.bl _=>some false
 |_,_=>none
mutual
noncomputable def Tr.qu:Tr->Bool
 |.tp l=>Tr.o_ l
 |.ls l=>Tr.o_ l
 |.kt _=>false
 |.kl _=>false
 |.hd _=>false
 |_=>true
noncomputable def Tr.o_:List Tr->Bool
 |[]=>true
 |t::l=>Tr.qu t && Tr.o_ l
end
mutual
noncomputable def Tr.dp:Tr->Nat
 |.tp l=>Tr.C6 l+1
 |.ls l=>Tr.C6 l+1
 |_=>0
noncomputable def Tr.C6:List Tr->Nat
 |[]=>0
 |t::l=>max (Tr.dp t) (Tr.C6 l)
end
mutual
noncomputable def Tr.dv:Tr->DV
 |.tp l=>.tp (Tr.Kl l)
 |.ls l=>.ls (Tr.Kl l)
 |.int i=>.fl (.int i)
 |.bl i=>.fl (.bl i)
 |.str i=>.fl (.str i)
 |_=>.fl .bw
noncomputable def Tr.Kl:List Tr->List DV
 |[]=>[]
 |t::l=>Tr.dv t::Tr.Kl l
end
mutual
theorem Tr.zq:∀t:Tr,DV.xA t.dv=t.dp
 |.tp l=>by unfold Tr.dv Tr.dp DV.xA;rw[Tr.zu l]
 |.ls l=>by unfold Tr.dv Tr.dp DV.xA;rw[Tr.zu l]
 |.int _=>by unfold Tr.dv Tr.dp DV.xA;rfl
 |.bl _=>by unfold Tr.dv Tr.dp DV.xA;rfl
 |.str _=>by unfold Tr.dv Tr.dp DV.xA;rfl
 |.bw=>by unfold Tr.dv Tr.dp DV.xA;rfl
 |.kt _=>by unfold Tr.dv Tr.dp DV.xA;rfl
 |.kl _=>by unfold Tr.dv Tr.dp DV.xA;rfl
 |.hd _=>by unfold Tr.dv Tr.dp DV.xA;rfl
theorem Tr.zu:∀l:List Tr,DV.A3 (Tr.Kl l)=Tr.C6 l
 |[]=>by unfold Tr.Kl Tr.C6 DV.A3;rfl
 |t::l=>by unfold Tr.Kl Tr.C6 DV.A3;rw[Tr.zq t,Tr.zu l]
end
noncomputable def vw:Nat->Cs->Tr->Tr
 |n+1,S,.hd i=>(match cO S i with|some l=>.ls (l.map (vw n S))|none=>.hd i)
 |n+1,S,.ls l=>.ls (l.map (vw n S))
 |n+1,S,.kl l=>.ls (l.map (vw n S))
 |n+1,S,.tp l=>.tp (l.map (vw n S))
 |n+1,S,.kt l=>.tp (l.map (vw n S))
 |_,_,t=>t
section
variable {G:Gx}{w:Wd}{S:Cs}{H:Hp}
theorem j7 (hg:∀t v,RT w t v->(g t).qu=true->iz G.K H (g t).dv v):∀{l:List Tr} {xs:List V},bF w l xs->Tr.o_ (l.map g)=true->jY G.K H (Tr.Kl (l.map g)) xs
 |[],xs,h,_=>by rw[h.bP];unfold List.map Tr.Kl jY;rfl
 |t::l,xs,h,n=>by
  obtain⟨x,r,rfl,h1,h2⟩:=h.bh;simp only[zau] at n ⊢
  unfold Tr.o_ at n;unfold Tr.Kl jY;have n:=zbw.mp n;exact⟨x,r,rfl,hg t x h1 n.1,j7 hg h2 n.2⟩
mutual
theorem j8 (hr:HR G w S H):∀(t:Tr) (v:V),RT w t v->t.qu=true->iz G.K H t.dv v
 |.tp l,v,r,n=>by
  unfold RT at r;unfold Tr.qu at n;unfold Tr.dv iz
  obtain⟨a,xs,e,h,r⟩:=r;exact⟨a,xs,e,oM.of (hr.sub _ _ h),qv hr l xs r n⟩
 |.ls l,v,r,n=>by
  unfold RT at r;unfold Tr.qu at n;unfold Tr.dv iz
  obtain⟨a,xs,e,h,r⟩:=r;exact⟨a,xs,e,i6.of (hr.sub _ _ h),qv hr l xs r n⟩
 |.int _,v,r,n=>by unfold Tr.dv iz;exact⟨aK r,rfl⟩
 |.bl _,v,r,n=>by unfold Tr.dv iz;exact⟨j6 r,rfl⟩
 |.str _,v,r,n=>by unfold Tr.dv iz;exact⟨bZ r,rfl⟩
 |.bw,v,r,n=>by unfold Tr.dv iz;exact⟨je r,rfl⟩
 |.kt _,v,r,n=>by unfold Tr.qu at n;cases n
 |.kl _,v,r,n=>by unfold Tr.qu at n;cases n
 |.hd _,v,r,n=>by unfold Tr.qu at n;cases n
theorem qv (hr:HR G w S H):∀(l:List Tr) (xs:List V),bF w l xs->Tr.o_ l=true->jY G.K H (Tr.Kl l) xs
 |[],xs,r,n=>by unfold Tr.Kl jY;exact r.bP
 |t::l,xs,r,n=>by
  obtain⟨x,r',rfl,h1,h2⟩:=r.bh;unfold Tr.o_ at n;unfold Tr.Kl jY;have n:=zbw.mp n;exact⟨x,r',rfl,j8 hr t x h1 n.1,qv hr l r' h2 n.2⟩
end
theorem kP (hr:HR G w S H):∀(n:Nat) (t:Tr) (v:V),RT w t v->(vw n S t).qu=true->iz G.K H (vw n S t).dv v
 |0,t,v,r,n=>by unfold vw at n ⊢;exact j8 hr t v r n
 |m+1,t,v,r,n=>by
  cases t with
  |hd i =>
   unfold vw at n ⊢
   split at n
   ·rename_i l e
    unfold Tr.qu at n;obtain⟨xs,h1,h2⟩:=hr.cell i _ (cA e)
    rw[r.cT.2];unfold Tr.dv iz;exact⟨_,xs,rfl,i6.of h1,j7 (kP hr m) h2 n⟩
   ·unfold Tr.qu at n;cases n
  |ls l =>
   unfold vw at n ⊢
   unfold Tr.qu at n;unfold RT at r;obtain⟨a,xs,e,h,r⟩:=r;unfold Tr.dv iz;exact⟨a,xs,e,i6.of (hr.sub _ _ h),j7 (kP hr m) r n⟩
  |kl l =>
   unfold vw at n ⊢
   unfold Tr.qu at n;unfold RT at r;obtain⟨a,xs,e,h,r⟩:=r;unfold Tr.dv iz;exact⟨a,xs,e,hr.sqL h,j7 (kP hr m) r n⟩
  |tp l =>
   unfold vw at n ⊢
   unfold Tr.qu at n;unfold RT at r;obtain⟨a,xs,e,h,r⟩:=r;unfold Tr.dv iz;exact⟨a,xs,e,oM.of (hr.sub _ _ h),j7 (kP hr m) r n⟩
  |kt l =>
   unfold vw at n ⊢
   unfold Tr.qu at n;unfold RT at r;obtain⟨a,xs,e,h,r⟩:=r;unfold Tr.dv iz;exact⟨a,xs,e,hr.sqT h,j7 (kP hr m) r n⟩
  |bw=>unfold vw at n ⊢;exact j8 hr _ v r n
  |int=>unfold vw at n ⊢;exact j8 hr _ v r n
  |bl=>unfold vw at n ⊢;exact j8 hr _ v r n
  |str=>unfold vw at n ⊢;exact j8 hr _ v r n
end
open Classical in
noncomputable def cE (neg:Bool):Tr->Tr->Cs->R Tr:=λt1 t2 S=>match L8 t1 t2 with
 |some b=>.ok (.bl (if neg then !b else b)) S
 |none=>if vw 6 S t1=vw 6 S t2/\(vw 6 S t1).qu=true/\(vw 6 S t1).dp<=50/\(vw 6 S t1).dp≠0 then .ok (.bl (!neg)) S else .ay
theorem Rz (h:L8 t1 t2=some b)(r1:RT w t1 x)(r2:RT w t2 y):YX x y=true/\decide (x=y)=b:=by
 unfold L8 at h;split at h<;>(first | (cases h;done)|skip)<;>(unfold RT at r1 r2;subst r1;subst r2;cases h;first|exact⟨rfl,Dg⟩|exact⟨rfl,by simp⟩|exact⟨rfl,by rw[zaK];simp⟩)
theorem L_:nh G k (compareOp (if neg then .NotEq else .Eq)) (cE neg):=.mk<|λX o ah s σ H x y v u Q I rx ry iy=>by
 obtain⟨w,S,t1,t2,hr,r1,r2,q⟩:=iy;unfold cE at q;split at q
 ·rename_i b e
  obtain⟨h1,h2⟩:=Rz e r1 r2;have q:=q w H _ (.refl w) hr gq
  cases neg with
  |true=>exact afe ah s σ H x y v u Q I rx ry ⟨h1,by rw[h2];exact q⟩
  |false=>exact afd ah s σ H x y v u Q I rx ry ⟨h1,by rw[h2];exact q⟩
 ·split at q
  ·rename_i h
   obtain⟨e1,e2,e3,e4⟩:=h;have d1:=kP hr 6 t1 x r1 e2;have d2:=kP hr 6 t2 y r2 (by rw[<-e1];exact e2)
   rw[<-e1] at d2;rw[<-o.K] at d1 d2;have q:=q w H _ (.refl w) hr gq
   have hn:∀z,(vw 6 S t1).dv ≠ .fl z:=λz hz=>e4 (by rw[<-Tr.zq,hz];unfold DV.xA;rfl)
   cases neg with
   |true=>exact ZO o.hu ah s σ H x y v u Q I rx ry ⟨_,by rw[Tr.zq];exact e3,hn,d1,d2,q⟩
   |false=>exact ZN o.hu ah s σ H x y v u Q I rx ry ⟨_,by rw[Tr.zq];exact e3,hn,d1,d2,q⟩
  ·exact q.elim
theorem RA:nh G k (compareOp .Eq) (cE false):=L_ (neg:=false)
theorem Ma:nh G k (compareOp .NotEq) (cE true):=L_ (neg:=true)
noncomputable def Z6:Tr->Bool|.bw=>true|_=>false
noncomputable def iT (neg:Bool):Tr->Tr->Cs->R Tr:=λt1 t2 S=>match t2 with
 |.bw=>.ok (.bl (if neg then !Z6 t1 else Z6 t1)) S
 |_=>.ay
theorem Mb (r:RT w t x):decide (x=V.bw)=Z6 t:=by
 cases t<;>unfold RT at r<;>(first | (subst r;rfl) | (obtain⟨a,xs,rfl,_⟩:=r;rfl) | (rw[r.2];rfl))
theorem Va:nh G k (compareOp (if neg then .IsNot else .Is)) (iT neg):=.mk<|λX o ah s σ H x y v u Q I rx ry jc=>by
 obtain⟨w,S,t1,t2,hr,r1,r2,q⟩:=jc;unfold iT at q;split at q
 ·have q:=q w H _ (.refl w) hr gq
  cases neg with
  |true=>exact Qs ah s σ H x y v u Q I rx ry ⟨je r2,by rw[Mb r1];exact q⟩
  |false=>exact YY ah s σ H x y v u Q I rx ry ⟨je r2,by rw[Mb r1];exact q⟩
 ·exact q.elim
theorem RB:nh G k (compareOp .Is) (iT false):=Va (neg:=false)
theorem F8:nh G k (compareOp .IsNot) (iT true):=Va (neg:=true)
noncomputable def gU:Tr->Option dz|.int i=>some (.inl i)|.str x=>some (.inr x)|_=>none
noncomputable def aP {κ:Type}[DecidableEq κ](k:κ):List (κ × Tr)->Option Tr
 |[]=>none
 | (j,t)::r=>if j=k then some t else aP k r
noncomputable def jf {κ:Type}[DecidableEq κ](l:List (κ × Tr))(k:κ)(t:Tr):List (κ × Tr):=
 if (l.any λkv=>decide (kv.1=k))=true then l.map (λkv=>if kv.1=k then (kv.1,t) else kv) else l++[(k,t)]
noncomputable def cC (f:Str)(v:Tr):List (Str×Tr)->List (Str×Tr)
 |[]=>[(f,v)]
 | (g,x)::r=>if g=f then (g,v)::r else (g,x)::cC f v r
noncomputable def eB (aJ iu:List (dz×Tr)):List (dz×Tr):=iu.foldl (λbO kv=>jf bO kv.1 kv.2) aJ
section
variable {w:Wd}{κ:Type}[DecidableEq κ]
theorem mJ:∀{l:List (κ × Tr)} {m:List (κ × V)} {k:κ},RK w l m->(∀t,aP k l=some t->∃v,lO m k=some v/\RT w t v)/\(aP k l=none->lO m k=none)
 |[],m,k,h=>by rw[h.bP];exact⟨λt e=>(by cases e),λ_=>rfl⟩
 | (j,t)::l,m,k,h=>by
  obtain⟨v,r,rfl,h1,h2⟩:=h.bh;unfold aP;by_cases e:j=k
  ·rw[if_pos e,oU (p:=(j,v)) e]
   exact⟨λu z=>by cases z;exact⟨v,rfl,h1⟩,λz=>by cases z⟩
  ·rw[if_neg e,oV (p:=(j,v)) e]
   exact mJ h2
theorem iA:∀{l:List (Str×Tr)} {m:List (Str×V)} {k:Str},RK w l m->(∀t,aP k l=some t->∃v,m.lookup k=some v/\RT w t v)/\(aP k l=none->m.lookup k=none)
 |[],m,k,h=>by rw[h.bP];exact⟨λt e=>(by cases e),λ_=>rfl⟩
 | (j,t)::l,m,k,h=>by
  obtain⟨v,r,rfl,h1,h2⟩:=h.bh;unfold aP;by_cases e:j=k
  ·subst e
   rw[if_pos rfl,List.lookup_cons_self];exact⟨λu z=>by cases z;exact⟨v,rfl,h1⟩,λz=>by cases z⟩
  ·have hb:(k == j)=false:=beq_eq_false_iff_ne.mpr λz=>e z.symm
   rw[if_neg e,zaT,hb];exact iA h2
theorem RK.Dv (h:RK w l m)(k:κ)(r:RT w t v):RK w (jf l k t) (kC m k v):=by
 have alJ:(l.any λkv=>decide (kv.1=k))=m.any λkv=>decide (kv.1=k):=by
  have e1:(l.any λkv=>decide (kv.1=k))=(l.map Prod.fst).any λj=>decide (j=k):=by rw[zcS];rfl
  have e2:(m.any λkv=>decide (kv.1=k))=(m.map Prod.fst).any λj=>decide (j=k):=by rw[zcS];rfl
  rw[e1,e2,h.1]
 have alK:∀{l:List (κ × Tr)} {m:List (κ × V)},RK w l m->RK w (l.map λkv=>if kv.1=k then (kv.1,t) else kv) (m.map λkv=>if kv.1=k then (kv.1,v) else kv):=by
  intro l;induction l with
  |nil=>intro m h;rw[h.bP];exact .nil
  |cons p l ih =>
   intro m h;obtain⟨j,u⟩:=p;obtain⟨x,r',rfl,h1,h2⟩:=h.bh;simp only[zau];by_cases e:j=k
   ·rw[if_pos e,if_pos e];exact .cons r (ih h2)
   ·rw[if_neg e,if_neg e];exact .cons h1 (ih h2)
 unfold jf kC;rw[alJ];split
 ·exact alK h
 ·exact⟨by simp[h.1],by simp only[zaF,zau,zaI];exact h.2.snoc r⟩
theorem RK.gA:∀{l:List (Str×Tr)} {m:List (Str×V)},RK w l m->(f:Str)->{t:Tr}->{v:V}->RT w t v->RK w (cC f t l) (L2.gA f v m)
 |[],m,h,f,t,v,r=>by rw[h.bP];exact .cons r .nil
 | (j,u)::l,m,h,f,t,v,r=>by
  obtain⟨x,r',rfl,h1,h2⟩:=h.bh;unfold cC L2.gA;split
  ·exact .cons r h2
  ·exact .cons h1 (RK.gA h2 f r)
theorem RK.AR:∀{iu:List (dz×Tr)} {mv:List (dz×V)} {l:List (dz×Tr)} {m:List (dz×V)},RK w iu mv->RK w l m->RK w (eB l iu) (gh m mv)
 |[],mv,l,m,h,g=>by rw[h.bP];exact g
 | (k,t)::iu,mv,l,m,h,g=>by
  obtain⟨x,r',rfl,h1,h2⟩:=h.bh;show RK w (eB (jf l k t) iu) (gh (kC m k x) r')
  exact RK.AR h2 (g.Dv k h1)
theorem gD (e:gU t=some k)(r:RT w t v):v=kV k:=by
 cases t with
 |int i=>cases e;exact aK r
 |str i=>cases e;exact bZ r
 |_=>cases e
end
noncomputable def dQ:Tr->Bool|.bw=>true|.bl _=>true|.int _=>true|.str _=>true|_=>false
noncomputable def P6:Tr->Tr->Bool
 |.bw,.bw=>true
 |.bl a,.bl b=>a == b
 |.bl a,.int b=>(if a then 1 else 0) == b
 |.int a,.bl b=>a == (if b then 1 else 0)
 |.int a,.int b=>a == b
 |.str a,.str b=>a == b
 |_,_=>false
noncomputable def Km (t:Tr)(l:List Tr):Bool:=l.any λu=>P6 u t
noncomputable def xF (neg:Bool):Tr->Tr->Cs->R Tr:=λt1 t2 S=>match t2 with
 |.str z=>(match t1 with|.str y=>.ok (.bl (if neg then !(!(Builtin.Str.occurrences z y 0 z.length 1).isEmpty) else !(Builtin.Str.occurrences z y 0 z.length 1).isEmpty)) S|_=>.ay)
 |t2=>match zo S t2 with
  |some l=>if dQ t1=true/\l.all dQ=true then .ok (.bl (if neg then !Km t1 l else Km t1 l)) S else .ay
  |none=>.ay
section
variable {G:Gx}{k:Nat}{w:Wd}
theorem tS (h:dQ t=true)(r:RT w t v):fQ v=true:=by
 cases t<;>first | (cases h;done) | (unfold RT at r;subst r;rfl)
theorem g9:∀{l:List Tr} {xs:List V},l.all dQ=true->bF w l xs->xs.all fQ=true
 |[],xs,_,r=>by rw[r.bP];rfl
 |t::l,xs,h,r=>by
  obtain⟨x,r',rfl,h1,h2⟩:=r.bh;have h:=zbw.mp (show (dQ t && l.all dQ)=true from h)
  show (fQ x && r'.all fQ)=true
  rw[tS h.1 h1,g9 h.2 h2];rfl
theorem Mc (h1:dQ t=true)(h2:dQ u=true)(r1:RT w t x)(r2:RT w u y):qP x y=P6 t u:=by
 cases t<;>(first | (cases h1;done)|skip)<;>(unfold RT at r1;subst r1)<;>cases u<;>(first | (cases h2;done)|skip)<;>(unfold RT at r2;subst r2;rfl)
theorem Me (h1:dQ t=true)(r:RT w t x):∀{l:List Tr} {xs:List V},l.all dQ=true->bF w l xs->inV x xs=Km t l
 |[],xs,_,q=>by rw[q.bP];rfl
 |u::l,xs,h,q=>by
  obtain⟨y,r',rfl,g1,g2⟩:=q.bh;have h:=zbw.mp (show (dQ u && l.all dQ)=true from h)
  show (qP y x || inV x r')=(P6 u t || Km t l)
  rw[Mc h.1 h1 g1 r,Me h1 r h.2 g2]
theorem Vb:nh G k (compareOp (if neg then .NotIn else .In)) (xF neg):=.mk<|λX o ah s σ H x y v u Q I rx ry b9=>by
 obtain⟨w,S,t1,t2,hr,r1,r2,q⟩:=b9;unfold xF at q;split at q
 ·split at q
  ·have q:=q w H _ (.refl w) hr gq
   cases neg with
   |true=>exact yY ah s σ H x y v u Q I rx ry ⟨_,_,bZ r1,bZ r2,q⟩
   |false=>exact HS ah s σ H x y v u Q I rx ry ⟨_,_,bZ r1,bZ r2,q⟩
  ·exact q.elim
 ·split at q
  ·rename_i l e
   split at q
   ·rename_i h
    obtain⟨a,xs,e1,sq,R⟩:=tP hr r2 e;have q:=q w H _ (.refl w) hr gq
    rw[<-o.K] at sq;rw[<-Me h.1 r1 h.2 R] at q;cases neg with
    |true=>exact yX ah s σ H x y v u Q I rx ry ⟨a,xs,e1,sq,tS h.1 r1,g9 h.2 R,q⟩
    |false=>exact Ic ah s σ H x y v u Q I rx ry ⟨a,xs,e1,sq,tS h.1 r1,g9 h.2 R,q⟩
   ·exact q.elim
  ·exact q.elim
theorem Bd:nh G k (compareOp .In) (xF false):=Vb (neg:=false)
theorem Be:nh G k (compareOp .NotIn) (xF true):=Vb (neg:=true)
noncomputable def Bf (neg:Bool):Tr->Tr->Cs->R Tr:=λt1 t2 S=>match F7 S t2,gU t1 with
 |some m,some j=>.ok (.bl (if neg then !(aP j m).isSome else (aP j m).isSome)) S
 |_,_=>.ay
variable {X:Cx}{a b c:Expr}{fa fb fc:Em}{pos agg:Pos}
theorem Bg (r:RK w m aJ)(j:dz):(lO aJ j).isSome=(aP j m).isSome:=by
 obtain⟨h1,h2⟩:=mJ (k:=j) r
 cases e:aP j m with
 |none=>rw[h2 e];rfl
 |some t=>obtain⟨v,ev,_⟩:=h1 t e;rw[ev];rfl
theorem Mf (h:fS G (ai (Bf neg) fa fb) σ H Q):(if neg then FN (fS G fa) (fS G fb) else afx (fS G fa) (fS G fb)) σ H Q:=by
 have h:=nX h;have go:∀{σ H Q},tOp (r2 G (Bf neg)) (fS G fa) (fS G fb) σ H Q->fS G fa σ H λy H1=>fS G fb σ H1 λx H2=>∃a o,x=V.ref a/\nJ H2 a y o/\Q (.bl (if neg then !o.isSome else o.isSome)) H2:=λ{σ H Q} h=>by
  obtain⟨w,S,τ,hr,sl,q⟩:=h;refine⟨w,S,τ,hr,sl,q.mono λy H1 ⟨w1,S1,e_,bL,DP,q1⟩=>⟨w1,S1,e_,bL,DP,q1.mono λx H2 dF=>?_⟩⟩
  obtain⟨w2,S2,t1,t2,dG,r1,r2,q2⟩:=dF;unfold Bf at q2;split at q2
  ·rename_i m j em ej
   obtain⟨n,aJ,_,_,ev,hH,R⟩:=tQ dG r2 em;refine⟨w2.ρ n,lO aJ j,ev,?_,?_⟩
   ·rw[gD ej r1]
    exact nJ.k hH
   ·rw[Bg R]
    exact q2 w2 H2 _ (.refl _) dG gq
  ·exact q2.elim
 cases neg with
 |true=>exact go h
 |false=>exact go h
theorem RC (ha:TV G k X a fa)(hb:TV G k X b fb)(hm:behindInMarks .NotIn b=false:=by with_unfolding_all rfl):TV G k X (.Compare a [.NotIn] [b] pos) (ai (Bf true) fa fb):=.mk<|λo=>(Yu (Ib o.hu1 (ha o) (hb o)) hm).wk λ_ _ _ h=>Mf (neg:=true) h
theorem Z7 (ha:TV G k X a fa)(hb:TV G k X b fb)(hm:behindInMarks .In b=false:=by with_unfolding_all rfl):A8 G k X (.Compare a [.In] [b] pos) (mB (ai (Bf false) fa fb)):=.mk<|λo=>(Yv (Y8 o.hu1 (ha o) (hb o)) hm).wk λ_ _ _ h=>Mf (neg:=false) (rY h)
noncomputable def aZ:Tr->Tr->Cs->R Tr:=λt1 t2 S=>match t1,t2 with
 |.str z,.int i=>if z.length<=sizeLine then (match iS z.cps.toList i with|some c=>.ok (.str ⟨#[c]⟩) S|none=>.ay) else .ay
 |t1,.int i=>(match zo S t1 with
  |some l=>(match iS l i with|some t=>.ok t S|none=>.ay)
  |none=>.ay)
 |_,_=>.ay
theorem agC (ha:TV G k X a fa)(hb:TV G k X b fb)(hs:FU b:=by intro _ _;rfl):TV G k X (.Subscript a b pos) (ai aZ fa fb):=.mk<|λo=>(afF Zg (ha o) (hb o) hs).wk λσ H Q h=>by
 obtain⟨w,S,τ,hr,sl,q⟩:=nX h;refine⟨w,S,τ,hr,sl,q.mono λx H1 ⟨w1,S1,e_,bL,DP,q1⟩=>⟨w1,S1,e_,bL,DP,q1.mono λy H2 jV=>?_⟩⟩
 obtain⟨w2,S2,t1,t2,dG,r1,r2,q2⟩:=jV;unfold aZ at q2;split at q2
 ·split at q2
  ·split at q2
   ·rename_i c e
    exact .inr (.inr ⟨_,_,c,bZ r1,aK r2,(by assumption),e,q2 w2 H2 _ (.refl _) dG kI⟩)
   ·exact q2.elim
  ·exact q2.elim
 ·split at q2
  ·rename_i l e
   split at q2
   ·rename_i t et
    obtain⟨p,xs,e1,sq,R⟩:=tP dG r1 e;obtain⟨v,ev,rv⟩:=R.iS et;have q:=q2 w2 H2 v (.refl _) dG rv
    rw[<-o.K] at sq;rcases sq with sq|sq
    ·exact .inl ⟨p,xs,_,v,e1,aK r2,sq,ev,q⟩
    ·exact .inr (.inl ⟨p,xs,_,v,e1,aK r2,sq,ev,q⟩)
   ·exact q2.elim
  ·exact q2.elim
 ·exact q2.elim
noncomputable def jI:Tr->Tr->Cs->R Tr:=λt1 t2 S=>match F7 S t1,gU t2 with
 |some m,some j=>(match aP j m with|some t=>.ok t S|none=>.ay)
 |_,_=>.ay
theorem Mg (ha:TV G k X a fa)(hb:TV G k X b fb)(hs:QG b:=by intro _ _;rfl):TV G k X (.Subscript a b pos) (ai jI fa fb):=.mk<|λo=>(FO o.hu1 (ha o) (hb o) hs).wk λσ H Q h=>by
 obtain⟨w,S,τ,hr,sl,q⟩:=nX h;refine⟨w,S,τ,hr,sl,q.mono λx H1 ⟨w1,S1,e_,bL,DP,q1⟩=>⟨w1,S1,e_,bL,DP,q1.mono λy H2 iy=>?_⟩⟩
 obtain⟨w2,S2,t1,t2,dG,r1,r2,q2⟩:=iy;unfold jI at q2;split at q2
 ·rename_i m j em ej
  split at q2
  ·rename_i t et
   obtain⟨n,aJ,_,_,ev,hH,R⟩:=tQ dG r1 em;obtain⟨v,e2,rv⟩:=(mJ (k:=j) R).1 t et
   have g:=nJ.k (k:=j) hH
   rw[e2] at g;exact⟨w2.ρ n,v,ev,by rw[gD ej r2];exact g,q2 w2 H2 v (.refl _) dG rv⟩
  ·exact q2.elim
 ·exact q2.elim
noncomputable def gV (f:Em):En->Cs->R (Option Int):=λτ S=>(f τ S).az λt S1=>match t with|.int i=>.ok (some i) S1|_=>.ay
noncomputable def rZ:En->Cs->R (Option Int):=λ_ S=>.ok none S
noncomputable def RD (G:Gx)(f:En->Cs->R (Option Int)):TO:=λσ H Q=>∃w S τ,HR G w S H/\Sl w τ σ /\ bg (λ_ a b=>a=b) G w (f τ S) Q
structure TVO (G:Gx) (k:Nat) (X:Cx) (e:Option Expr) (f:En->Cs->R (Option Int)):Prop where
 ku:jF G k X->PO X e (RD G f)
noncomputable instance {G:Gx}{k:Nat}{X:Cx}{e:Option Expr}{f:En->Cs->R (Option Int)}:CoeFun (TVO G k X e f) (λ_=>jF G k X->PO X e (RD G f)):=⟨TVO.ku⟩
theorem RE:TVO G k X none rZ:=.mk<|λo ah s σ H Q I jc=>by obtain⟨w,S,τ,hr,sl,q⟩:=jc;exact QT ah s σ H Q I (q w H _ (.refl w) hr rfl)
theorem RG (ha:TV G k X a fa):TVO G k X (some a) (gV fa):=.mk<|λo ah s σ H Q I ⟨w,S,τ,hr,sl,q⟩=>yS (ha o) ah s σ H Q I ⟨w,S,τ,hr,sl,(bg.az q).mono λx H1 o8=>by
 obtain⟨w1,S1,t1,cW,bL,r1,_,q1⟩:=o8;split at q1
 ·exact⟨_,aK r1,q1 w1 H1 _ (.refl _) bL rfl⟩
 ·exact q1.elim⟩
noncomputable def wL (l:List Tr)(lo hi:Option Int):List Tr:=(l.drop (HT.gj l.length 0 lo)).take (HT.gj l.length l.length hi - HT.gj l.length 0 lo)
theorem bF.cut (h:bF w l xs)(lo hi:Option Int):bF w (wL l lo hi) (AS xs lo hi):=by
 unfold wL AS;rw[h.len];exact (h.drop _).take _
noncomputable def vX (t:Tr)(lo hi:Option Int)(S:Cs):R Tr:=match t with
 |.str z=>if z.length<=sizeLine then .ok (.str (Txt.slice z lo hi)) S else .ay
 |t=>match vW S t with
  |some l=>.ok (.ls (wL l lo hi)) S
  |none=>match Kf t with
   |some l=>if ¬ (HT.gj l.length 0 lo=0/\HT.gj l.length l.length hi=l.length) then .ok (.tp (wL l lo hi)) S else .ay
   |none=>.ay
noncomputable def Kn (g:Tr->Option Int->Option Int->Cs->R Tr)(fa:Em)(fl fh:En->Cs->R (Option Int)):Em:=λτ S=>(fa τ S).az λt S1=>(fl τ S1).az λlo S2=>(fh τ S2).az λhi S3=>g t lo hi S3
variable {lo hi:Option Expr}{fl fh:En->Cs->R (Option Int)}
theorem Mh (h:fS G (Kn g fa fl fh) σ H Q):tSl (λx l u H3 Q=>∃w S t,HR G w S H3/\RT w t x/\bg RT G w (g t l u S) Q) (fS G fa) (RD G fl) (RD G fh) σ H Q:=by
 obtain⟨w,S,τ,hr,sl,q⟩:=h;refine⟨w,S,τ,hr,sl,(bg.az q).mono λx H1 kJ=>?_⟩
 obtain⟨w1,S1,t1,cW,bL,r1,_,q1⟩:=kJ;refine⟨w1,S1,τ,bL,sl.mono cW,(bg.az q1).mono λl H2 tL=>?_⟩
 obtain⟨w2,S2,t2,eW,dG,r2,_,q2⟩:=tL;refine⟨w2,S2,τ,dG,(sl.mono cW).mono eW,(bg.az q2).mono λu H3 kL=>?_⟩
 obtain⟨w3,S3,t3,i7,mG,r3,_,q3⟩:=kL;subst r2 r3;exact⟨w3,S3,t1,mG,RT.mono (eW.trans i7) _ _ r1,q3⟩
theorem agD (ha:TV G k X a fa)(hl:TVO G k X lo fl)(hh:TVO G k X hi fh):TV G k X (.Subscript a (.Slice lo hi none p2) pos) (Kn vX fa fl fh):=.mk<|λo =>
 (K9 (r:=λx l u H Q=>∃w S t,HR G w S H/\RT w t x/\bg RT G w (vX t l u S) Q) (λah s σ H x v vl vu lo hi sl Q I rx hs pl pu kM=>by
  obtain⟨w,S,t,hr,r,q⟩:=kM;unfold vX at q;split at q
  ·split at q
   ·exact Zt ah s σ H x v vl vu lo hi sl Q I rx hs pl pu ⟨_,bZ r,by assumption,q w H _ (.refl w) hr kI⟩
   ·exact q.elim
  ·split at q
   ·rename_i l e
    obtain⟨a,xs,e1,sq,R⟩:=iG hr r e;rw[<-o.K] at sq;exact QX ah s σ H x v vl vu lo hi sl Q I rx hs pl pu ⟨a,xs,e1,sq,hr.jd (R.cut lo hi) rfl q⟩
   ·split at q
    ·rename_i l e
     split at q
     ·rename_i hn
      obtain⟨a,xs,e1,sq,R⟩:=gZ hr r e;rw[<-o.K] at sq;exact Zd ah s σ H x v vl vu lo hi sl Q I rx hs pl pu ⟨a,xs,e1,sq,by rw[R.len];exact hn,hr.Rw (R.cut lo hi) rfl q⟩
     ·exact q.elim
    ·exact q.elim) (ha o) (hl o) (hh o)).wk λ_ _ _ h=>Mh h
end
section
variable {G:Gx}{k:Nat}{X:Cx}{a b c o e:Expr}{es:List Expr}{fa fb fc fo f:Em}{fr:En->Cs->R (List Tr)}{pos p eX gx:Pos}{x:Str}{id T:String}
noncomputable def rN (G:Gx)(g:List Tr->Cs->R Tr):List V->Hp->VK->Prop:=λxs H Q=>∃w S ts,HR G w S H/\bF w ts xs/\bg RT G w (g ts S) Q
noncomputable def bA (g:List Tr->Cs->R Tr)(fr:En->Cs->R (List Tr)):Em:=λτ S=>(fr τ S).az λts S1=>g ts S1
structure lE (G:Gx) (k:Nat) (f:Value) (g:List Tr->Cs->R Tr):Prop where
 ku:∀X:Cx,jF G k X->ja X f (rN G g)
noncomputable instance {G:Gx}{k:Nat}{f:Value}{g:List Tr->Cs->R Tr}:CoeFun (lE G k f g) (λ_=>∀X:Cx,jF G k X->ja X f (rN G g)):=⟨lE.ku⟩
theorem F9 (h:fS G (bA g fr) σ H Q):tCB (rN G g) (DS G fr) σ H Q:=by
 obtain⟨w,S,τ,hr,sl,q⟩:=h;exact⟨w,S,τ,hr,sl,(bg.az q).mono λxs H1 b9=>by obtain⟨w1,S1,ts,cW,bL,r1,_,q1⟩:=b9;exact⟨w1,S1,ts,bL,r1,q1⟩⟩
theorem b_ (hc:lE G k (.builtin id) g)(hm:X.mg x=none)(hv:bootBuiltins x=some (.builtin id))(ha:wI G k X (e::es) fr)(hg:Gl X x:=by rfl)(hn:x ≠ "__name__" := by decide)(sP:(x == ("__debug__" : Str))=false:=by decide)
  (he:dN e=false:=by rfl) (hpl:dh es=true:=by rfl):TV G k X (.Call (.Name x p) (e::es) [] pos) (bA g fr):=.mk<|λo =>
 (AM (hc X o) hg hm hv (ha o) hn sP (di he) (fX hpl)).wk λ_ _ _ h=>F9 h
theorem cK (hc:lE G k (.type T) g)(hm:X.mg x=none)(hv:bootBuiltins x=some (.type T))(ha:wI G k X (e::es) fr)(hg:Gl X x:=by rfl)(hn:x ≠ "__name__" := by decide)(sP:(x == ("__debug__" : Str))=false:=by decide)
  (he:dN e=false:=by rfl) (hpl:dh es=true:=by rfl):TV G k X (.Call (.Name x p) (e::es) [] pos) (bA g fr):=.mk<|λo =>
 (HY (hc X o) hg hm hv (ha o) hn sP (di he) (fX hpl)).wk λ_ _ _ h=>F9 h
theorem fj (r:bF w [t] xs):∃x,xs=[x]/\RT w t x:=by
 obtain⟨x,r',rfl,h1,h2⟩:=r.bh;exact⟨x,by rw[h2.bP],h1⟩
theorem r9 (r:bF w [t,u] xs):∃x y,xs=[x,y]/\RT w t x/\RT w u y:=by
 obtain⟨x,r',rfl,h1,h2⟩:=r.bh;obtain⟨y,rfl,h3⟩:=fj h2;exact⟨x,y,rfl,h1,h3⟩
noncomputable def gy:List Tr->Cs->R Tr:=λts S=>match ts with
 |[.str z]=>if z.length<=sizeLine then .ok (.int z.length) S else .ay
 |[t]=>(match zo S t with|some l=>.ok (.int l.length) S|none=>match F7 S t with|some m=>.ok (.int m.length) S|none=>.ay)
 |_=>.ay
theorem jg:lE G k (.builtin "len") gy:=.mk<|λX o ah s σ H xs us Q I rv cZ=>by
 obtain⟨w,S,ts,hr,r,q⟩:=cZ;unfold gy at q;split at q
 ·split at q
  ·obtain⟨x,rfl,r1⟩:=fj r
   exact y9 ah s σ H _ us Q I rv ⟨_,by rw[bZ r1],by assumption,q w H _ (.refl w) hr d_⟩
  ·exact q.elim
 ·obtain⟨x,rfl,r1⟩:=fj r
  split at q
  ·rename_i l e
   obtain⟨a,xs,e1,sq,R⟩:=tP hr r1 e;rw[<-o.K] at sq;have q:=q w H (.int xs.length) (.refl w) hr (by rw[R.len];exact d_)
   exact yZ ah s σ H _ us Q I rv ⟨a,xs,by rw[e1],sq,q⟩
  ·split at q
   ·rename_i m e
    obtain⟨n,aJ,_,_,ev,hH,R⟩:=tQ hr r1 e;have q:=q w H (.int aJ.length) (.refl w) hr (by rw[R.len];exact d_)
    exact Im ah s σ H _ us Q I rv ⟨w.ρ n,aJ,by rw[ev],hH,q⟩
   ·exact q.elim
 ·exact q.elim
noncomputable def pe:List Tr->Cs->R Tr:=λts S=>match ts with
 |[t]=>(match zo S t with|some l=>.ok (.ls l) S|none=>.ay)
 |_=>.ay
noncomputable def mK:List Tr->Cs->R Tr:=λts S=>match ts with
 |[t]=>(match vW S t with|some l=>.ok (.tp l) S|none=>match Kf t with|some _=>.ok t S|none=>.ay)
 |_=>.ay
theorem qw:lE G k (.type "list") pe:=.mk<|λX o ah s σ H xs us Q I rv dF=>by
 obtain⟨w,S,ts,hr,r,q⟩:=dF;unfold pe at q;split at q
 ·obtain⟨x,rfl,r1⟩:=fj r
  split at q
  ·rename_i l e
   obtain⟨a,xs,e1,sq,R⟩:=tP hr r1 e;rw[<-o.K] at sq;exact y_ ah s σ H _ us Q I rv ⟨a,xs,by rw[e1],sq,hr.jd R rfl q⟩
  ·exact q.elim
 ·exact q.elim
theorem zv:lE G k (.type "tuple") mK:=.mk<|λX o ah s σ H xs us Q I rv jV=>by
 obtain⟨w,S,ts,hr,r,q⟩:=jV;unfold mK at q;split at q
 ·obtain⟨x,rfl,r1⟩:=fj r
  split at q
  ·rename_i l e
   obtain⟨a,xs,e1,sq,R⟩:=iG hr r1 e;rw[<-o.K] at sq;exact nP ah s σ H _ us Q I rv ⟨a,xs,by rw[e1],.inl ⟨sq,hr.Rw R rfl q⟩⟩
  ·split at q
   ·rename_i l e
    obtain⟨a,xs,e1,sq,R⟩:=gZ hr r1 e;rw[<-o.K] at sq;have q:=q w H x (.refl w) hr r1
    rw[e1] at q;exact nP ah s σ H _ us Q I rv ⟨a,xs,by rw[e1],.inr ⟨sq,q⟩⟩
   ·exact q.elim
 ·exact q.elim
noncomputable def tT:List Tr->Cs->R Tr:=λts S=>match ts with
 |[.int i]=>.ok (.int i) S
 |[.bl b]=>.ok (.int (if b then 1 else 0)) S
 |_=>.ay
theorem Bh:lE G k (.type "int") tT:=.mk<|λX o ah s σ H xs us Q I rv mq=>by
 obtain⟨w,S,ts,hr,r,q⟩:=mq;unfold tT at q;split at q
 ·obtain⟨x,rfl,r1⟩:=fj r
  exact wZ ah s σ H _ us Q I rv (.inl ⟨_,by rw[aK r1],q w H _ (.refl w) hr d_⟩)
 ·obtain⟨x,rfl,r1⟩:=fj r
  exact wZ ah s σ H _ us Q I rv (.inr ⟨_,by rw[j6 r1],q w H _ (.refl w) hr d_⟩)
 ·exact q.elim
noncomputable def pq:List Tr->Option (List Int)|[]=>some []|.int i::l=>(pq l).map (i::·)|_=>none
noncomputable def qS:List Tr->Option (List Bool)|[]=>some []|.bl i::l=>(qS l).map (i::·)|_=>none
theorem Bj:∀{l:List Tr} {xs:List V} {ns:List Int},pq l=some ns->bF w l xs->xs=ns.map V.int
 |[],xs,ns,h,r=>by cases h;exact r.bP
 |t::l,xs,ns,h,r=>by
  obtain⟨x,r',rfl,h1,h2⟩:=r.bh;cases t with
  |int i =>
   cases e:pq l with
   |none=>unfold pq at h;rw[e] at h;cases h
   |some ms=>unfold pq at h;rw[e] at h;cases h;rw[Bj e h2,aK h1];rfl
  |_=>cases h
theorem Bk:∀{l:List Tr} {xs:List V} {ns:List Bool},qS l=some ns->bF w l xs->xs=ns.map V.bl
 |[],xs,ns,h,r=>by cases h;exact r.bP
 |t::l,xs,ns,h,r=>by
  obtain⟨x,r',rfl,h1,h2⟩:=r.bh;cases t with
  |bl i =>
   cases e:qS l with
   |none=>unfold qS at h;rw[e] at h;cases h
   |some ms=>unfold qS at h;rw[e] at h;cases h;rw[Bk e h2,j6 h1];rfl
  |_=>cases h
noncomputable def tU:List Tr->Cs->R Tr:=λts S=>match ts with
 |[t]=>(match vW S t with|some l=>(match pq l with|some ns=>.ok (.int ns.sum) S|none=>.ay)|none=>.ay)
 |_=>.ay
theorem Vc (hk:0<k:=by first|decide|omega):lE G k (.builtin "sum") tU:=.mk<|λX o ah s σ H xs us Q I rv kJ=>by
 obtain⟨w,S,ts,hr,r,q⟩:=kJ;unfold tU at q;split at q
 ·obtain⟨x,rfl,r1⟩:=fj r
  split at q
  ·rename_i l e
   split at q
   ·rename_i ns en
    obtain⟨a,xs,e1,sq,R⟩:=iG hr r1 e;rw[<-o.K,Bj en R] at sq;exact LK (o.fM hk) ah s σ H _ us Q I rv ⟨a,ns,by rw[e1],sq,q w H _ (.refl w) hr d_⟩
   ·exact q.elim
  ·exact q.elim
 ·exact q.elim
noncomputable def RH:List Tr->Cs->R Tr:=λts S=>match ts with
 |[t]=>(match D0 S t with|some l=>(match qS l with|some ns=>.ok (.bl (ns.any _root_.id)) S|none=>.ay)|none=>.ay)
 |_=>.ay
theorem agE (hk:0<k:=by first|decide|omega):lE G k (.builtin "any") RH:=.mk<|λX o ah s σ H xs us Q I rv kL=>by
 obtain⟨w,S,ts,hr,r,q⟩:=kL;unfold RH at q;split at q
 ·obtain⟨x,rfl,r1⟩:=fj r
  split at q
  ·rename_i l e
   split at q
   ·rename_i ns en
    obtain⟨a,xs,e1,sq,R⟩:=qp hr r1 e;rw[Bk en R] at sq;exact LM (o.fM hk) ah s σ H _ us Q I rv ⟨a,ns,by rw[e1],sq,q w H _ (.refl w) hr gq⟩
   ·exact q.elim
  ·exact q.elim
 ·exact q.elim
noncomputable def Ko (S:Cs):Tr->Option String
 |.bw=>some "NoneType"
 |.bl _=>some "bool"
 |.int _=>some "int"
 |.str _=>some "str"
 |.tp _=>some "tuple"
 |.ls _=>some "list"
 |.hd n=>(match S[n]? with|some (.aV _)=>some "list" |some (.gQ _)=>some "dict" |_=>none)
 |_=>none
noncomputable def nL (a u:String):Option Bool:=if a="bool" /\ u="int" then some true else if a∈["NoneType","bool","int","str","tuple","list","dict"]/\u∈["bool","int","str","tuple","list","dict"] then some (decide (a=u)) else none
theorem RI {K:W.Frag}{a u:String}{b:Bool}(h:nL a u=some b):W.kitOne K (.type a) (.type u)=some b:=by
 unfold nL at h;split at h
 ·rename_i e
  obtain⟨rfl,rfl⟩:=e;cases h;rfl
 ·split at h
  ·rename_i e
   obtain⟨e1,e2⟩:=e;simp only[zap,zaC,or_false] at e1 e2;rename_i hn;rcases e1 with rfl|rfl|rfl|rfl|rfl|rfl|rfl<;>rcases e2 with rfl|rfl|rfl|rfl|rfl|rfl<;>(first | (cases h;rfl) | (exact absurd ⟨rfl,rfl⟩ hn))
  ·cases h
theorem Z8 (hr:HR G w S H)(r:RT w t v)(e:Ko S t=some ty):oR G.K H v (.type ty):=by
 cases t with
 |bw=>cases e;rw[je r];exact .bw
 |bl=>cases e;rw[j6 r];exact .bl _
 |int=>cases e;rw[aK r];exact .int _
 |str=>cases e;rw[bZ r];exact .str _
 |tp l=>cases e;unfold RT at r;obtain⟨a,xs,rfl,h,_⟩:=r;exact .gp (hr.sub _ _ h)
 |ls l=>cases e;unfold RT at r;obtain⟨a,xs,rfl,h,_⟩:=r;exact .aV (hr.sub _ _ h)
 |hd n =>
  unfold Ko at e;rw[r.cT.2];dsimp only at e
  split at e
  ·rename_i l el
   cases e;obtain⟨xs,h,_⟩:=hr.cell n _ el;exact .aV h
  ·rename_i l el
   cases e;obtain⟨xs,h,_⟩:=hr.cell n _ el;exact .dK h
  ·cases e
 |kt _=>cases e
 |kl _=>cases e
noncomputable def jx (u:String)(fa:Em):Em:=λτ S=>(fa τ S).az λt S1=>match Ko S1 t with|some ty=>(match nL ty u with|some b=>.ok (.bl b) S1|none=>.ay)|none=>.ay
theorem jJ {p2:Pos}(hm:X.mg "isinstance"=none)(hy:X.mg y=none)(hb:bootBuiltins y=some (.type u))(ha:TV G k X a fa)(hg:Gl X "isinstance" := by rfl)(hgy:Gl X y:=by rfl)(hn:y ≠ "__name__" := by decide)(hd:(y == ("__debug__" : Str))=false:=by decide)
  (hs:dN a=false:=by rfl):TV G k X (.Call (.Name "isinstance" p) [a,.Name y p2] [] pos) (jx u fa):=.mk<|λo =>
 (AM Lp hg hm PyProof.Rows.boot_isinstance (oS (ha o) (oS (Qg (v:=.ty u) hgy hy hb rfl hn hd) Dp (di rfl)) (di hs)) (he:=di hs) (hpl:=fX rfl)).wk λσ H Q h=>by
  obtain⟨w,S,τ,hr,sl,q⟩:=h;refine⟨w,S,τ,hr,sl,(bg.az q).mono λx H1 kM=>?_⟩
  obtain⟨w1,S1,t1,cW,bL,r1,_,q1⟩:=kM;split at q1
  ·rename_i ty et
   split at q1
   ·rename_i b eb
    have ty:=Z8 bL r1 et;rw[<-o.K] at ty;exact⟨x,.ty u,u,_,b,rfl,.inl rfl,ty,RI eb,q1 w1 H1 _ (.refl _) bL gq⟩
   ·exact q1.elim
  ·exact q1.elim
noncomputable def rM (G:Gx)(g:Tr->List Tr->Cs->R Tr):V->List V->Hp->VK->Prop:=λx xs H Q=>∃w S t ts,HR G w S H/\RT w t x/\bF w ts xs/\bg RT G w (g t ts S) Q
noncomputable def tV (ck:Cs->Tr->Bool)(g:Tr->List Tr->Cs->R Tr)(fo:Em)(fr:En->Cs->R (List Tr)):Em:=λτ S=>(fo τ S).az λt S1=>if ck S1 t=true then (fr τ S1).az λts S2=>g t ts S2 else .ay
structure D_ (G:Gx) (k:Nat) (id:String) (g:Tr->List Tr->Cs->R Tr):Prop where
 ku:∀X:Cx,jF G k X->MtR X id (rM G g)
noncomputable instance {G:Gx}{k:Nat}{id:String}{g:Tr->List Tr->Cs->R Tr}:CoeFun (D_ G k id g) (λ_=>∀X:Cx,jF G k X->MtR X id (rM G g)):=⟨D_.ku⟩
noncomputable def IL (S:Cs)(t:Tr):Bool:=(vW S t).isSome
noncomputable def ckD (S:Cs)(t:Tr):Bool:=(F7 S t).isSome
noncomputable def Z9 (ck:Cs->Tr->Bool)(T:String):Prop:=∀(G:Gx) (w:Wd) (S:Cs) (H:Hp) (t:Tr) (v:V),HR G w S H->RT w t v->ck S t=true->tyV G.K T v H
theorem nZ:Z9 IL "list" := λG w S H t v hr r e=>by
 unfold IL at e;obtain⟨l,el⟩:=zcj.mp e;obtain⟨a,xs,rfl,sq,_⟩:=iG hr r el;exact .inl ⟨rfl,xs,sq⟩
theorem Z_ (hs:dN e=false)(Il:dh es=true)(cJ:decide (es.length<29)=true):((backTo gx (starEach (e::es) env)).all (λx=>!x.1) && (backToKw gx (keywordEach [] env)).all (λx=>x.1.isSome)
   && decide ((e::es).length+([]:List Keyword).length+(if ([]:List Keyword).isEmpty then 0 else 1)<30))=true:=by
 have h1:dh (e::es)=true:=by show (!dN e && dh es)=true;rw[hs,Il];rfl
 rw[A9 h1];have h2:es.length<29:=of_decide_eq_true cJ
 show (true && true && decide (es.length+1+0+0<30))=true
 rw[decide_eq_true (by omega)];rfl
theorem qx (pa:PlainAttrs T)(slot:Slot T name id)(Zj:typeOf (.builtin id)=pure (.type "method_descriptor"))(hck:Z9 ck T)(hm:D_ G k id g)(ho:TV G k X o fo)(ha:wI G k X (e::es) fr)
  (sV:attributeBase o name X.env (eval o X.env)=eval o X.env:=by rfl)
  (hs:dN e=false:=by rfl) (Il:dh es=true:=by rfl) (cJ:decide (es.length<29)=true:=by rfl) (sW:(eX.endLine == gx.line)=true:=by rfl):
  TV G k X (.Call (.Attribute o name eX) (e::es) [] gx) (tV ck g fo fr):=.mk<|λox =>
 (afK pa slot Zj (hm X ox) (ho ox) (ha ox) sV (Z_ hs Il cJ) sW (di hs) (fX Il)).wk λσ H Q h=>by
  obtain⟨w,S,τ,hr,sl,q⟩:=h;refine⟨w,S,τ,hr,sl,(bg.az q).mono λx H1 nY=>?_⟩
  obtain⟨w1,S1,t1,cW,bL,r1,_,q1⟩:=nY;split at q1
  ·rename_i hk
   rw[ox.K];exact⟨hck G w1 S1 H1 t1 x bL r1 hk,w1,S1,τ,bL,sl.mono cW,(bg.az q1).mono λxs H2 kO=>by obtain⟨w2,S2,ts,eW,dG,r2,_,q2⟩:=kO;exact⟨w2,S2,t1,ts,dG,RT.mono eW _ _ r1,r2,q2⟩⟩
  ·exact q1.elim
theorem RJ (pa:PlainAttrs T)(slot:Slot T name id)(Zj:typeOf (.builtin id)=pure (.type "method_descriptor"))(hck:Z9 ck T)(hm:D_ G k id g)(ho:TV G k X o fo)
  (sV:attributeBase o name X.env (eval o X.env)=eval o X.env:=by rfl) (sW:(eX.endLine == gx.line)=true:=by rfl):
  TV G k X (.Call (.Attribute o name eX) [] [] gx) (tV ck g fo aj):=.mk<|λox =>
 (Zi pa slot Zj (hm X ox) (ho ox) sV sW).wk λσ H Q h=>by
  obtain⟨w,S,τ,hr,sl,q⟩:=h;refine⟨w,S,τ,hr,sl,(bg.az q).mono λx H1 tN=>?_⟩
  obtain⟨w1,S1,t1,cW,bL,r1,_,q1⟩:=tN;split at q1
  ·rename_i hk
   rw[ox.K];exact⟨hck G w1 S1 H1 t1 x bL r1 hk,w1,S1,t1,[],bL,r1,.nil,q1⟩
  ·exact q1.elim
noncomputable def zw:Tr->List Tr->Cs->R Tr:=λt ts S=>match t,ts with
 |.hd n,[u]=>(match cO S n with|some l=>if l.length<sizeLine then .ok .bw (S.set n (.aV (l++[u]))) else .ay|none=>.ay)
 |_,_=>.ay
noncomputable def RL:Tr->List Tr->Cs->R Tr:=λt ts S=>match t,ts with
 |.hd n,[u]=>(match cO S n,D0 S u with|some l,some m=>if l.length+m.length<=sizeLine then .ok .bw (S.set n (.aV (l++m))) else .ay|_,_=>.ay)
 |_,_=>.ay
noncomputable def aqx:Tr->List Tr->Cs->R Tr:=λt ts S=>match t,ts with
 |.hd n,[]=>(match cO S n with|some l=>.ok .bw (S.set n (.aV l.reverse))|none=>.ay)
 |_,_=>.ay
noncomputable def tW:Tr->List Tr->Cs->R Tr:=λt ts S=>match t,ts with
 |.hd n,[]=>(match cO S n with|some _=>.ok .bw (S.set n (.aV []))|none=>.ay)
 |_,_=>.ay
theorem putL (hr:HR G w S H)(e:cO S n=some l)(r:bF w l' ys):HR G w (S.set n (.aV l')) (br H (w.ρ n) (.aV ys)):=
 hr.Dv (cA e) rfl rfl ⟨ys,av,r⟩
theorem mL:D_ G k "list.append" zw:=.mk<|λX o ah s σ H x xs v us Q I rx rv tO=>by
 obtain⟨w,S,t,ts,hr,r,rs,q⟩:=tO;unfold zw at q;split at q
 ·split at q
  ·rename_i l e
   split at q
   ·obtain⟨y,rfl,r1⟩:=fj rs
    obtain⟨ys,h1,h2⟩:=hr.cell _ _ (cA e)
    exact xq ah s σ H x _ v us Q I rx rv ⟨_,ys,y,r.cT.2,rfl,h1,by rw[h2.len];assumption,q w _ _ (.refl w) (putL hr e (h2.snoc r1)) qo⟩
   ·exact q.elim
  ·exact q.elim
 ·exact q.elim
theorem Mi:D_ G k "list.extend" RL:=.mk<|λX o ah s σ H x xs v us Q I rx rv DZ=>by
 obtain⟨w,S,t,ts,hr,r,rs,q⟩:=DZ;unfold RL at q;split at q
 ·split at q
  ·rename_i l m e em
   split at q
   ·obtain⟨y,rfl,r1⟩:=fj rs
    obtain⟨ys,h1,h2⟩:=hr.cell _ _ (cA e)
    obtain⟨b,zs,rfl,hb,R⟩:=qp hr r1 em;exact Ie ah s σ H x _ v us Q I rx rv ⟨_,b,ys,zs,r.cT.2,rfl,h1,hb,by rw[h2.len,R.len];assumption,q w _ _ (.refl w) (putL hr e (h2.rJ R)) qo⟩
   ·exact q.elim
  ·exact q.elim
 ·exact q.elim
theorem RM:D_ G k "list.clear" tW:=.mk<|λX o ah s σ H x xs v us Q I rx rv aaa=>by
 obtain⟨w,S,t,ts,hr,r,rs,q⟩:=aaa;unfold tW at q;split at q
 ·split at q
  ·rename_i l e
   obtain⟨ys,h1,h2⟩:=hr.cell _ _ (cA e)
   exact Le ah s σ H x _ v us Q I rx rv ⟨_,ys,r.cT.2,rs.bP,h1,q w _ _ (.refl w) (putL hr e .nil) qo⟩
  ·exact q.elim
 ·exact q.elim
theorem bF.ints:∀(l:List Int),bF w (l.map Tr.int) (l.map V.int)
 |[]=>.nil
 |x::l=>.cons d_ (bF.ints l)
end
section
variable {G:Gx}{k:Nat}{X:Cx}{a b c o e value:Expr}{es:List Expr}{fa fb fc fo fi fv f:Em}{fr:En->Cs->R (List Tr)}{pos jS p eX gx:Pos}{x:Str}
noncomputable def bI (i:Nat):Tr->En->Cs->R En:=λt τ S=>.ok (τ.set i (some t)) S
theorem RN (hN:X.N.Nodup)(hi:X.N[i]? = some x)(hx:UH X.env.scope x)(hf:X.fn x=true\/X.env.scope.names.lookup x=some .local:=by first|exact .inl rfl|exact .inr rfl|assumption):IJ G k X (.Name x pos) (bI i):=.mk<|λ_=>(Qj hN hi hx hf).wk λv σ H Q h=>by
 obtain⟨w,S,τ,t,hr,sl,r,q⟩:=h;exact q w H _ (.refl w) hr (sl.set i r)
noncomputable abbrev Bs:=List Tr->En->Cs->R En
noncomputable def qy:Bs:=λts τ S=>match ts with|[]=>.ok τ S|_=>.ay
noncomputable def dH (b:Tr->En->Cs->R En)(r:Bs):Bs:=λts τ S=>match ts with|t::l=>(b t τ S).az λe_ S1=>r l e_ S1|[]=>.ay
noncomputable def Vd (G:Gx)(f:Bs):UK:=λvs σ H Q=>∃w S τ ts,HR G w S H/\Sl w τ σ /\ bF w ts vs/\bg Sl G w (f ts τ S) Q
structure Ea (G:Gx) (k:Nat) (X:Cx) (ts:List Expr) (f:Bs):Prop where
 ku:jF G k X->PX X ts (Vd G f)
noncomputable instance {G:Gx}{k:Nat}{X:Cx}{ts:List Expr}{f:Bs}:CoeFun (Ea G k X ts f) (λ_=>jF G k X->PX X ts (Vd G f)):=⟨Ea.ku⟩
theorem PX.wk (h:PX X ts t)(g:∀vs σ H Q,t' vs σ H Q->t vs σ H Q):PX X ts t':=λah s σ H vs us Q I r q=>h ah s σ H vs us Q I r (g _ _ _ _ q)
theorem F_:Ea G k X [] qy:=.mk<|λ_=>Qk.wk λvs σ H Q h=>by
 obtain⟨w,S,τ,ts,hr,sl,r,q⟩:=h;unfold qy at q;split at q
 ·exact⟨r.bP,q w H _ (.refl w) hr sl⟩
 ·exact q.elim
theorem tX {b:Tr->En->Cs->R En}(h1:IJ G k X e b)(h2:Ea G k X es r)(hs:(assignEach (e::es) X.env).map (·.2)=assign e X.env::(assignEach es X.env).map (·.2):=by rfl):Ea G k X (e::es) (dH b r):=.mk<|λo=>(Ky (h1 o) (h2 o) hs).wk λvs σ H Q h=>by
 obtain⟨w,S,τ,ts,hr,sl,r,q⟩:=h;unfold dH at q;split at q
 ·obtain⟨v,vr,rfl,r1,r2⟩:=r.bh
  exact⟨v,vr,rfl,w,S,τ,_,hr,sl,r1,(bg.az q).mono λYF H1 b9=>by obtain⟨w1,S1,e_,cW,bL,DP,_,q1⟩:=b9;exact⟨w1,S1,e_,_,bL,DP,bF.mono cW _ _ r2,q1⟩⟩
 ·exact q.elim
noncomputable def lF (n:Nat)(r:Bs):Tr->En->Cs->R En:=λt τ S=>match Kf t with|some l=>if l.length=n then r l τ S else .ay|none=>.ay
noncomputable def Ga (n:Nat)(r:Bs):Tr->En->Cs->R En:=λt τ S=>match vW S t with|some l=>if l.length=n then r l τ S else .ay|none=>.ay
theorem n_ (h:Ea G k X es r)(hn:(assignEach es X.env).length=n:=by rfl)(qa:(assignEach es X.env).findIdx? (·.1)=none:=by rfl)(hk:0<k:=by first|decide|omega):IJ G k X (.Tuple es kk pos) (lF n r):=.mk<|λo=>(YG (o.fM hk) (h o) hn qa).wk λv σ H Q h=>by
 obtain⟨w,S,τ,t,hr,sl,r,q⟩:=h;unfold lF at q;split at q
 ·rename_i l el
  split at q
  ·obtain⟨a,xs,e1,sq,R⟩:=gZ hr r el
   rw[<-o.K] at sq;exact⟨a,xs,e1,sq,by rw[R.len];assumption,w,S,τ,l,hr,sl,R,q⟩
  ·exact q.elim
 ·exact q.elim
theorem RO (h:Ea G k X es r)(hn:(assignEach es X.env).length=n:=by rfl)(qa:(assignEach es X.env).findIdx? (·.1)=none:=by rfl)(hk:0<k:=by first|decide|omega):IJ G k X (.Tuple es kk pos) (Ga n r):=.mk<|λo=>(Rj (o.fM hk) (h o) hn qa).wk λv σ H Q h=>by
 obtain⟨w,S,τ,t,hr,sl,r,q⟩:=h;unfold Ga at q;split at q
 ·rename_i l el
  split at q
  ·obtain⟨a,xs,e1,sq,R⟩:=iG hr r el
   rw[<-o.K] at sq;exact⟨a,xs,e1,sq,by rw[R.len];assumption,w,S,τ,l,hr,sl,R,q⟩
  ·exact q.elim
 ·exact q.elim
noncomputable def aab (fo fi:Em):Tr->En->Cs->R En:=λt τ S=>(fo τ S).az λu S1=>(fi τ S1).az λj S2=>match u,j with
 |.hd n,.int i=>(match cO S2 n with|some l=>(match CZ l.length i with|some m=>.ok τ (S2.set n (.aV (l.set m t)))|none=>.ay)|none=>.ay)
 |_,_=>.ay
theorem aac (ho:TV G k X o fo)(hi:TV G k X i fi)(ha:∀v,assign (.Subscript o i pos) X.env v=(do
   let ov <-holding [v] (eval o X.env)
   let iv <-holding [v,ov] (eval i X.env)
   standAt pos
   holding [v,ov,iv] (setItem ov iv v)
   release [v,ov,iv] []):=by intro _;rfl):IJ G k X (.Subscript o i pos) (aab fo fi):=.mk<|λox=>(YH (ho ox) (hi ox) agf ha).wk λv σ H Q h=>by
 obtain⟨w,S,τ,t,hr,sl,r,q⟩:=h;refine⟨w,S,τ,hr,sl,(bg.az q).mono λx H1 cZ=>?_⟩
 obtain⟨w1,S1,t1,cW,bL,r1,_,q1⟩:=cZ;refine⟨w1,S1,τ,bL,sl.mono cW,(bg.az q1).mono λy H2 dF=>?_⟩
 obtain⟨w2,S2,t2,eW,dG,r2,_,q2⟩:=dF;split at q2
 ·split at q2
  ·rename_i l el
   split at q2
   ·rename_i m em
    have r1':=(RT.mono eW _ _ r1).cT
    obtain⟨ys,h1,h2⟩:=dG.cell _ _ (cA el)
    refine⟨_,_,r1'.2,aK r2,?_⟩
    rw[h1];show match CZ ys.length _ with|some j=>_|none=>False
    rw[h2.len,em];exact q2 w2 _ _ (.refl _) (putL dG el (h2.set (RT.mono (cW.trans eW) _ _ r) m)) ((sl.mono cW).mono eW)
   ·exact q2.elim
  ·exact q2.elim
 ·exact q2.elim
noncomputable def aB:Sm:=λτ S=>.nx τ S
noncomputable def ao (f g:Sm):Sm:=λτ S=>match f τ S with|.nx e_ S1=>g e_ S1|r=>r
noncomputable def eV (f:Em):Sm:=λτ S=>(f τ S).bU λ_ S1=>.nx τ S1
noncomputable def aE (f:Em):Sm:=λτ S=>(f τ S).bU λt S1=>.rt t S1
noncomputable def cF (c:En->Cs->R Bool)(f g:Sm):Sm:=λτ S=>(c τ S).bU λb S1=>if b=true then f τ S1 else g τ S1
noncomputable def aR (i:Nat)(f:Em):Sm:=λτ S=>(f τ S).bU λt S1=>.nx (τ.set i (some t)) S1
noncomputable def Eb (f:Em)(b:Tr->En->Cs->R En):Sm:=λτ S=>(f τ S).bU λt S1=>(b t τ S1).bU λe_ S2=>.nx e_ S2
noncomputable def Mj:Sm:=λτ S=>.ct τ S
variable {st:Stmt}{cX:List Stmt}{s1 s2:Sm}
theorem mO:F6 G k X [] aB:=.mk<|λ_=>Qi.wk λD σ H h=>by
 obtain⟨w,S,τ,hr,sl,q⟩:=h;exact q w H σ (.refl w) hr sl
theorem jK (h:wJ G k X st s1):F6 G k X [st] s1:=.mk<|λo=>FE (h o)
theorem jA (h1:wJ G k X st s1)(h2:F6 G k X cX s2):F6 G k X (st::cX) (ao s1 s2):=.mk<|λo=>(sJ (h1 o) (h2 o)).wk λD σ H h=>by
 obtain⟨w,S,τ,hr,sl,q⟩:=h;refine⟨w,S,τ,hr,sl,?_⟩
 unfold ao at q;split at q
 ·rename_i e_ S1 e
  rw[e];exact λw' H' dP le wM sl'=>⟨w',S1,e_,wM,sl',bV.wd le q⟩
 ·rename_i r qj
  cases e:s1 τ S with
  |nx e_ S1=>exact absurd e (qj e_ S1)
  |rt t S1=>rw[e] at q;exact q
  |bk t S1=>rw[e] at q;exact q
  |ct t S1=>rw[e] at q;exact q
  |ex t S1=>rw[e] at q;exact q
  |ay=>rw[e] at q;exact q
theorem Bl:wJ G k X (.Continue pos) Mj:=.mk<|λ_=>AJ.wk λD σ H h=>by
 obtain⟨w,S,τ,hr,sl,q⟩:=h;exact q w H σ (.refl w) hr sl
theorem RP (he:TV G k X e f)(hs:swapsWith e none pos.line X.env=pure false:=by rfl):wJ G k X (.Expr e pos) (eV f):=.mk<|λo=>(FF (he o) hs).wk λD σ H h=>by
 obtain⟨w,S,τ,hr,sl,q⟩:=h;exact⟨w,S,τ,hr,sl,(bV.az q).mono λv H1 mj=>by obtain⟨w1,S1,t1,cW,bL,r1,_,q1⟩:=mj;exact q1 w1 H1 σ (.refl _) bL (sl.mono cW)⟩
theorem kQ (he:TV G k X e f):wJ G k X (.Return (some e) pos) (aE f):=.mk<|λo=>(YD (he o)).wk λD σ H h=>by
 obtain⟨w,S,τ,hr,sl,q⟩:=h;exact⟨w,S,τ,hr,sl,(bV.az q).mono λv H1 jV=>by obtain⟨w1,S1,t1,cW,bL,r1,_,q1⟩:=jV;exact q1 w1 H1 v (.refl _) bL r1⟩
theorem qT (hc:A8 G k X c ta)(ha:F6 G k X as s1)(hb:F6 G k X bs s2):wJ G k X (.If c as bs pos) (cF ta s1 s2):=.mk<|λo=>(ae2 (hc o) (ha o) (hb o)).wk λD σ H h=>by
 obtain⟨w,S,τ,hr,sl,q⟩:=h;refine⟨w,S,τ,hr,sl,(bV.az q).mono λx H1 mq=>?_⟩
 obtain⟨w1,S1,t1,cW,bL,r1,_,q1⟩:=mq;subst r1;cases t1 with
 |true=>rw[if_pos rfl] at q1;exact ze ⟨w1,S1,τ,bL,sl.mono cW,q1⟩
 |false=>rw[if_neg zag] at q1;exact zd ⟨w1,S1,τ,bL,sl.mono cW,q1⟩
theorem Ml (h:LV G (aR i f) D σ H):Ql (fS G f) (FG i) D σ H:=by
 obtain⟨w,S,τ,hr,sl,q⟩:=h;exact⟨w,S,τ,hr,sl,(bV.az q).mono λv H1 iy=>by obtain⟨w1,S1,t1,cW,bL,r1,_,q1⟩:=iy;exact q1 w1 H1 _ (.refl _) bL ((sl.mono cW).set i r1)⟩
theorem aad (hN:X.N.Nodup)(hi:X.N[i]? = some x)(hx:UH X.env.scope x)(he:TV G k X e f)(hs:swapsWith e (some (.Name x jS)) pos.line X.env=pure false:=by rfl)(hf:X.fn x=true\/X.env.scope.names.lookup x=some .local:=by first|exact .inl rfl|exact .inr rfl|assumption):
  wJ G k X (.Assign [.Name x jS] e pos) (aR i f):=.mk<|λo=>(YJ hN hi hx (he o) hs hf).wk λ_ _ _ h=>Ml h
theorem aae {b:Tr->En->Cs->R En}(he:TV G k X e f)(hg:IJ G k X tg b)(hs:swapsWithSole [tg] e pos.line X.env=pure false:=by rfl)(hw:swappedStores [tg] e X.env=pure none:=by rfl)
  (h1:(assignEach [tg] X.env).map (·.2)=[assign tg X.env]:=by rfl):wJ G k X (.Assign [tg] e pos) (Eb f b):=.mk<|λo=>(YI (he o) (hg o) hs hw h1).wk λD σ H h=>by
 obtain⟨w,S,τ,hr,sl,q⟩:=h;exact⟨w,S,τ,hr,sl,(bV.az q).mono λv H1 jc=>by obtain⟨w1,S1,t1,cW,bL,r1,_,q1⟩:=jc;exact⟨w1,S1,τ,t1,bL,sl.mono cW,r1,(bV.az q1).mono λvU H2 Bb=>by obtain⟨w2,S2,iU,eW,dG,Dw,_,q2⟩:=Bb;exact q2 w2 H2 vU (.refl _) dG Dw⟩⟩
noncomputable def RQ (i j:Nat)(fr:En->Cs->R (List Tr)):Sm:=λτ S=>(fr τ S).bU λts S1=>match ts with|[t,u]=>.nx ((τ.set i (some t)).set j (some u)) S1|_=>.ay
theorem Mm {kt k2 YL}(hN:X.N.Nodup)(hi:X.N[i]? = some x)(hj:X.N[j]? = some y)(hij:i≠j)
  (hx:X.env.scope.names.lookup x=some .local) (hy:X.env.scope.names.lookup y=some .local) (ha:wI G k X [a,b] fr)
  (hw:swappedStores [.Tuple [.Name x px,.Name y py] kt pt] (.Tuple [a,b] k2 YL) X.env=pure (some [x,y]))
  (hs:swapsWithSole [.Tuple [.Name x px,.Name y py] kt pt] (.Tuple [a,b] k2 YL) pos.line X.env=pure false:=by rfl) (hk:0<k:=by first|decide|omega):
  wJ G k X (.Assign [.Tuple [.Name x px,.Name y py] kt pt] (.Tuple [a,b] k2 YL) pos) (RQ i j fr):=.mk<|λo=>(YK (o.fM hk) hN hi hj hij hx hy (ha o) hw hs).wk λD σ H h=>by
 obtain⟨w,S,τ,hr,sl,q⟩:=h;refine⟨w,S,τ,hr,sl,(bV.az q).mono λvs H1 o8=>?_⟩
 obtain⟨w1,S1,ts,cW,bL,r1,_,q1⟩:=o8;split at q1
 ·obtain⟨v,u,rfl,g1,g2⟩:=r9 r1
  exact⟨v,u,rfl,q1 w1 H1 _ (.refl _) bL (((sl.mono cW).set i g1).set j g2)⟩
 ·exact q1.elim
noncomputable def pA (u j t:Tr)(S:Cs):R Unit:=match u with
 |.hd n=>(match gU j with|some q=>(match mH S n with|some m=>if m.length<sizeLine then .ok () (S.set n (.gQ (jf m q t))) else .ay|none=>.ay)|none=>.ay)
 |_=>.ay
theorem Mn {x y v:V}(hr:HR G w S H)(ru:RT w u x)(rj:RT w j y)(rt:RT w t v)(e:pA u j t S = .ok () S'):∃a H',x = .ref a/\HZ H a y v H'/\HR G w S' H':=by
 unfold pA at e;split at e
 ·split at e
  ·rename_i q ek
   split at e
   ·rename_i m em
    split at e
    ·cases e
     obtain⟨aJ,h1,h2⟩:=hr.cell _ _ (gY em)
     refine⟨_,_,ru.cT.2,by rw[gD ek rj];exact HZ.k h1 (by rw[h2.len];assumption),?_⟩
     exact hr.Dv (gY em) rfl rfl ⟨_,av,h2.Dv q rt⟩
    ·cases e
   ·cases e
  ·cases e
 ·cases e
noncomputable def nQ (fo fi fv:Em):Sm:=λτ S=>(fv τ S).bU λt S1=>(fo τ S1).bU λu S2=>(fi τ S2).bU λj S3=>(pA u j t S3).bU λ_ S4=>.nx τ S4
theorem Ec:pA u j t S ≠ .ex n S':=by
 unfold pA;split<;>(try split)<;>(try split)<;>(try split)<;>simp
theorem zx (ho:TV G k X o fo)(hi:TV G k X i fi)(hv:TV G k X value fv)(hs:swapsWith value (some (.Subscript o i jS)) pos.line X.env=pure false:=by rfl):wJ G k X (.Assign [.Subscript o i jS] value pos) (nQ fo fi fv):=.mk<|λox=>(QK ox.hu1 (ho ox) (hi ox) (hv ox) hs).wk λD σ H h=>by
 obtain⟨w,S,τ,hr,sl,q⟩:=h;refine⟨w,S,τ,hr,sl,(bV.az q).mono λv H1 kJ=>?_⟩
 obtain⟨w1,S1,t,cW,bL,r1,_,q1⟩:=kJ;refine⟨w1,S1,τ,bL,sl.mono cW,(bV.az q1).mono λx H2 tL=>?_⟩
 obtain⟨w2,S2,u,eW,dG,r2,_,q2⟩:=tL;refine⟨w2,S2,τ,dG,(sl.mono cW).mono eW,(bV.az q2).mono λy H3 kL=>?_⟩
 obtain⟨w3,S3,j,i7,mG,r3,_,q3⟩:=kL;cases e:pA u j t S3 with
 |ok z S4 =>
  rw[e] at q3;obtain⟨a,H4,e1,d,Ke⟩:=Mn mG (RT.mono i7 _ _ r2) r3 (RT.mono (eW.trans i7) _ _ r1) e
  exact⟨a,H4,e1,d,q3 w3 _ σ (.refl _) Ke (((sl.mono cW).mono eW).mono i7)⟩
 |ex n S4=>exact absurd e Ec
 |ay=>rw[e] at q3;exact q3.elim
noncomputable def fq (G:Gx)(cs:List Str)(f:Str):Prop:=∀c∈cs,vV G.K (G.cl c)/\cy G.K (G.cl c) f
noncomputable def IM (cs:List Str)(f:Str)(t:Tr)(S:Cs):R Tr:=match t with
 |.hd n=>(match iO S n with|some (c,fs)=>if c∈cs then (match aP f fs with|some u=>.ok u S|none=>.ay) else .ay|none=>.ay)
 |_=>.ay
noncomputable def bD (cs:List Str)(f:Str)(fo:Em):Em:=λτ S=>(fo τ S).az λt S1=>IM cs f t S1
theorem aD {f:Str}(hf:fq G cs f)(ho:TV G k X o fo)(hb:attributeBase o f X.env (eval o X.env)=eval o X.env:=by rfl):TV G k X (.Attribute o f pos) (bD cs f fo):=.mk<|λox=>(Y0 (ho ox) hb).wk λσ H Q h=>by
 obtain⟨w,S,τ,hr,sl,q⟩:=h;refine⟨w,S,τ,hr,sl,(bg.az q).mono λx H1 kM=>?_⟩
 obtain⟨w1,S1,t1,cW,bL,r1,_,q1⟩:=kM;unfold IM at q1;split at q1
 ·split at q1
  ·rename_i c fs ei
   split at q1
   ·rename_i hc
    split at q1
    ·rename_i u eu
     obtain⟨dx,wG,h1,h2⟩:=bL.cell _ _ (fG ei)
     obtain⟨v,ev,rv⟩:=(iA (k:=f) h2).1 u eu
     obtain⟨c1,c2⟩:=hf c hc;rw[<-ox.K] at c1 c2;exact⟨_,_,dx,wG,v,r1.cT.2,h1,c1,c2,ev,q1 w1 H1 v (.refl _) bL rv⟩
    ·exact q1.elim
   ·exact q1.elim
  ·exact q1.elim
 ·exact q1.elim
noncomputable def pB (cs:List Str)(f:Str)(t v:Tr)(S:Cs):R Unit:=match t with
 |.hd n=>(match iO S n with|some (c,fs)=>if c∈cs/\fs.length<1000 then .ok () (S.set n (.fE c (cC f v fs))) else .ay|none=>.ay)
 |_=>.ay
noncomputable def cu (cs:List Str)(f:Str)(fo fv:Em):Sm:=λτ S=>(fv τ S).bU λt S1=>(fo τ S1).bU λu S2=>(pB cs f u t S2).bU λ_ S3=>.nx τ S3
theorem RU {f:Str}{x y:V}(hf:fq G cs f)(hr:HR G w S H)(rt:RT w t x)(ru:RT w u y)(e:pB cs f t u S = .ok () S'):
  ∃a C dx fs,x = .ref a/\H a=some (.fE C dx fs)/\vV G.K C/\cy G.K C f/\fs.length<1000/\HR G w S' (br H a (.fE C dx (gA f y fs))):=by
 unfold pB at e;split at e
 ·split at e
  ·rename_i c fs ei
   split at e
   ·rename_i hc
    cases e;obtain⟨dx,wG,h1,h2⟩:=hr.cell _ _ (fG ei)
    obtain⟨c1,c2⟩:=hf c hc.1;exact⟨_,_,dx,wG,rt.cT.2,h1,c1,c2,by rw[h2.len];exact hc.2,hr.Dv (fG ei) rfl rfl ⟨dx,_,av,h2.gA f ru⟩⟩
   ·cases e
  ·cases e
 ·cases e
theorem a_ {f:Str}(hf:fq G cs f)(ho:TV G k X o fo)(hv:TV G k X value fv)(hs:swapsWith value (some (.Attribute o f jS)) pos.line X.env=pure false:=by rfl):wJ G k X (.Assign [.Attribute o f jS] value pos) (cu cs f fo fv):=.mk<|λox=>(Y3 (ho ox) (hv ox) hs).wk λD σ H h=>by
 obtain⟨w,S,τ,hr,sl,q⟩:=h;refine⟨w,S,τ,hr,sl,(bV.az q).mono λv H1 nY=>?_⟩
 obtain⟨w1,S1,t,cW,bL,r1,_,q1⟩:=nY;refine⟨w1,S1,τ,bL,sl.mono cW,(bV.az q1).mono λx H2 kO=>?_⟩
 obtain⟨w2,S2,u,eW,dG,r2,_,q2⟩:=kO;cases e:pB cs f u t S2 with
 |ok z S3 =>
  rw[e] at q2;obtain⟨a,C,dx,fs,e1,h1,c1,c2,hl,mG⟩:=RU hf dG r2 (RT.mono eW _ _ r1) e
  rw[<-ox.K] at c1 c2;exact⟨a,C,dx,fs,e1,h1,c1,c2,hl,q2 w2 _ σ (.refl _) mG ((sl.mono cW).mono eW)⟩
 |ex n S3=>exact absurd e (by unfold pB;split<;>(try split)<;>(try split)<;>simp)
 |ay=>rw[e] at q2;exact q2.elim
noncomputable def xG (cs:List Str)(f:Str)(g:Int->Int->Int)(fo fv:Em):Sm:=λτ S=>(fo τ S).bU λt S1=>match t with
 |.hd n=>(match iO S1 n with
  |some (c,fs)=>if c∈cs then (match aP f fs with
   |some (.int i)=>(fv τ S1).bU λy S2=>(match y with
    |.int j=>(match iO S2 n with|some (c',J7)=>if c'=c/\J7.length<1000 then .nx τ (S2.set n (.fE c (cC f (.int (g i j)) J7))) else .ay|none=>.ay)
    |_=>.ay)
   |_=>.ay) else .ay
  |none=>.ay)
 |_=>.ay
theorem r_ {f:Str}(hop:∀X:Cx,QA X op (λx y H Q=>∃i j,x = .int i/\y = .int j/\Q (.int (g i j)) H))(hf:fq G cs f)(ho:TV G k X o fo)(hv:TV G k X value fv):wJ G k X (.AugAssign (.Attribute o f jS) op value pos) (xG cs f g fo fv):=.mk<|λox=>(HV (ho ox) (hv ox) (hop X)).wk λD σ H h=>by
 obtain⟨w,S,τ,hr,sl,q⟩:=h;refine⟨w,S,τ,hr,sl,(bV.az q).mono λx H1 tN=>?_⟩
 obtain⟨w1,S1,t,cW,bL,r1,_,q1⟩:=tN;split at q1
 ·rename_i n
  split at q1
  ·rename_i c fs ei
   split at q1
   ·rename_i hc
    split at q1
    ·rename_i i eu
     obtain⟨dx,wG,h1,h2⟩:=bL.cell _ _ (fG ei)
     obtain⟨v,ev,rv⟩:=(iA (k:=f) h2).1 _ eu
     obtain⟨c1,c2⟩:=hf c hc;rw[<-ox.K] at c1 c2;refine⟨_,_,dx,wG,v,r1.cT.2,h1,c1,c2,ev,w1,S1,τ,bL,sl.mono cW,(bV.az q1).mono λy H2 tO=>?_⟩
     obtain⟨w2,S2,t2,eW,dG,r2,_,q2⟩:=tO;split at q2
     ·rename_i j
      split at q2
      ·rename_i c' J7 ei'
       split at q2
       ·rename_i hl
        obtain⟨rfl,hl⟩:=hl;obtain⟨dx',alM,h1',Gb⟩:=dG.cell _ _ (fG ei')
        have e0:=eW.r _ r1.cT.1;rw[e0] at h1';refine⟨i,_,aK rv,aK r2,dx',alM,h1',by rw[Gb.len];exact hl,q2 w2 _ σ (.refl _) ?_ ((sl.mono cW).mono eW)⟩
        rw[<-e0];exact dG.Dv (fG ei') rfl rfl ⟨dx',_,av,Gb.gA f d_⟩
       ·exact q2.elim
      ·exact q2.elim
     ·exact q2.elim
    ·exact q1.elim
   ·exact q1.elim
  ·exact q1.elim
 ·exact q1.elim
theorem se:∀X:Cx,QA X .Add (λx y H Q=>∃i j,x = .int i/\y = .int j/\Q (.int (i+j)) H):=λ_=>Y4
end
structure Ax where
 items:List Tr
 iH:Cs->Prop
noncomputable def aaf (G:Gx)(w:Wd)(s:Ax)(J:It):Prop:=∀(w1:Wd) (S1:Cs) (H1:Hp) (i:Nat),w.K=w1.K->w.n<=w1.n->(∀i,i<w.n->w1.ρ i=w.ρ i)->(∀b o,w.F b=some o->w1.F b=some o)->HR G w1 S1 H1->s.iH S1 ->
 (∀t,s.items[i]? = some t->J.go i H1/\∀x H2,J.yld i H1 x H2->∃w2,w1.le w2/\HR G w2 S1 H2/\RT w2 t x)/\(i=s.items.length->J.stop i H1)
noncomputable def RV (G:Gx)(f:En->Cs->R Ax):TI:=λσ H Q=>∃w S τ,HR G w S H/\Sl w τ σ /\ bg (λw s J=>aaf G w s J) G w (f τ S) Q
structure RW (G:Gx) (k:Nat) (X:Cx) (tg d8:Expr) (f:En->Cs->R Ax):Prop where
 ku:jF G k X->PI X tg d8 (RV G f)
noncomputable instance {G:Gx}{k:Nat}{X:Cx}{tg d8:Expr}{f:En->Cs->R Ax}:CoeFun (RW G k X tg d8 f) (λ_=>jF G k X->PI X tg d8 (RV G f)):=⟨RW.ku⟩
section
variable {G:Gx}{k:Nat}{X:Cx}{a b c o e tg:Expr}{es:List Expr}{fa fb f:Em}{fr:En->Cs->R (List Tr)}{pos p:Pos}
theorem PI.wk (h:PI X tg d8 t)(g:∀ σ H Q,t' σ H Q->t σ H Q):PI X tg d8 t':=λah s σ H R I q=>h ah s σ H R I (g _ _ _ q)
theorem RT.tY (hK:w.K=w1.K)(hn:w.n<=w1.n)(iN:∀i,i<w.n->w1.ρ i=w.ρ i)(hF:∀b o,w.F b=some o->w1.F b=some o)(r:RT w t v):RT w1 t v:=
 RT.mono (w:={w with hid:=w1.hid}) ⟨hK.symm,hn,iN,hF,rfl⟩ t v (RT.bu _ t v r)
theorem bF.tY (hK:w.K=w1.K)(hn:w.n<=w1.n)(iN:∀i,i<w.n->w1.ρ i=w.ρ i)(hF:∀b o,w.F b=some o->w1.F b=some o)(r:bF w l xs):bF w1 l xs:=
 bF.mono (w:={w with hid:=w1.hid}) ⟨hK.symm,hn,iN,hF,rfl⟩ l xs (bF.bu _ l xs r)
noncomputable def iL:Tr->Cs->R Ax:=λt S=>match t with
 |.ls l=>.ok ⟨l,λ_=>True⟩ S
 |.kl l=>.ok ⟨l,λ_=>True⟩ S
 |.hd n=>(match cO S n with|some l=>.ok ⟨l,λS'=>cO S' n=some l⟩ S|none=>.ay)
 |_=>.ay
noncomputable def tZ (g:Tr->Cs->R Ax)(f:Em):En->Cs->R Ax:=λτ S=>(f τ S).az λt S1=>g t S1
noncomputable def agI (G:Gx)(w:Wd)(s:Ax)(a:Addr)(l:List Tr):Prop:=s.items=l/\∀(w1:Wd) (S1:Cs) (H1:Hp),w.K=w1.K->w.n<=w1.n->(∀i,i<w.n->w1.ρ i=w.ρ i)->(∀b o,w.F b=some o->w1.F b=some o)->HR G w1 S1 H1->s.iH S1->∃xs,i6 G.K H1 a xs/\bF w1 l xs
theorem zy (hr:HR G w S H)(r:RT w t v)(e:iL t S = .ok s S'):S'=S/\∃a l,v = .ref a/\(∃xs,i6 G.K H a xs/\bF w l xs)/\agI G w s a l:=by
 unfold iL at e;split at e
 ·cases e
  unfold RT at r;obtain⟨a,xs,rfl,h,r⟩:=r;exact⟨rfl,a,_,rfl,⟨xs,i6.of (hr.sub _ _ h),r⟩,rfl,λw1 S1 H1 hK hn iN hF bL _=>⟨xs,i6.of (bL.sub _ _ (hF _ _ h)),r.tY hK hn iN hF⟩⟩
 ·cases e
  unfold RT at r;obtain⟨a,xs,rfl,h,r⟩:=r;exact⟨rfl,a,_,rfl,⟨xs,hr.sqL h,r⟩,rfl,λw1 S1 H1 hK hn iN hF bL _=>⟨xs,bL.sqL (by rw[<-hK];exact h.mono hF),r.tY hK hn iN hF⟩⟩
 ·rename_i n
  split at e
  ·rename_i l el
   cases e;obtain⟨xs,h1,h2⟩:=hr.cell _ _ (cA el)
   have hi:=r.cT;refine⟨rfl,_,l,hi.2,⟨xs,i6.of h1,h2⟩,rfl,λw1 S1 H1 hK hn iN hF bL hc=>?_⟩
   obtain⟨ys,h3,h4⟩:=bL.cell _ _ (cA hc)
   rw[iN _ hi.1] at h3;exact⟨ys,i6.of h3,h4⟩
  ·cases e
 ·cases e
theorem zz:iL t S ≠ .ex n S':=by
 unfold iL;split<;>(try split)<;>simp
theorem RX (ha:TV G k X a fa):RW G k X tg a (tZ iL fa):=.mk<|λox=>(Qm (ha ox)).wk λσ H Q h=>by
 obtain⟨w,S,τ,hr,sl,q⟩:=h;refine⟨w,S,τ,hr,sl,(bg.az q).mono λx H1 b9=>?_⟩
 obtain⟨w1,S1,t1,cW,bL,r1,_,q1⟩:=b9;cases e:iL t1 S1 with
 |ok s S2 =>
  rw[e] at q1;obtain⟨rfl,p,l,rfl,⟨xs,sq,R⟩,ei,st⟩:=zy bL r1 e
  refine⟨p,rfl,⟨xs,by rw[ox.K];exact sq⟩,q1 w1 H1 _ (.refl _) bL λw2 S2 H2 i hK hn iN hF dG hc=>?_⟩
  obtain⟨ys,sq2,R2⟩:=st w2 S2 H2 hK hn iN hF dG hc;rw[ei];refine⟨λt et=>?_,λhi=>⟨ys,by rw[ox.K];exact sq2,by rw[R2.len,hi];exact zah _⟩⟩
  obtain⟨v,ev,rv⟩:=R2.get et;refine⟨⟨ys,v,by rw[ox.K];exact sq2,ev⟩,λy H3 cZ=>?_⟩
  obtain⟨e3,hy⟩:=cZ;subst e3
  have:=hy ys (by rw[ox.K];exact sq2)
  rw[ev] at this;cases this;exact⟨w2,.refl _,dG,rv⟩
 |ex n S2=>exact absurd e zz
 |ay=>rw[e] at q1;exact q1.elim
noncomputable def rL (lo:Int)(n:Nat):List Tr:=(List.range n).map λ(j:Nat)=>Tr.int (lo+j)
noncomputable def xH (fr:En->Cs->R (List Tr)):En->Cs->R Ax:=λτ S=>(fr τ S).az λts S1=>match ts with
 |[.int j]=>wH (-(2 ^ 62)<=j/\j<2 ^ 62) (.ok ⟨rL 0 j.toNat,λ_=>True⟩ S1) .ay
 |_=>.ay
theorem aah {lo:Int}:aaf G w ⟨rL lo n,λ_=>True⟩ (Itr lo n):=λw2 S2 H2 i hK hn iN hF dG hc=>by
 refine⟨λt et=>?_,λhi=>?_⟩
 ·have et:(rL lo n)[i]? = some t:=et
  unfold rL at et;rw[zar] at et;have jR:i<n:=by
   cases ec:(List.range n)[i]? with
   |none=>rw[ec] at et;cases et
   |some c=>simpa using (zae.mp ec).1
  rw[zdt jR] at et;cases et;refine⟨jR,λy H3 iy=>?_⟩
  obtain⟨e3,ey⟩:=iy;subst e3;subst ey;exact⟨w2,.refl _,dG,d_⟩
 ·show n<=i
  have hi:i=(rL lo n).length:=hi
  unfold rL at hi;simp at hi
  omega
theorem zA (hm:X.mg "range"=none)(ha:wI G k X [a] fr)(hg:Gl X "range" := by rfl)(hs:dN a=false:=by rfl):RW G k X tg (.Call (.Name "range" p) [a] [] pos) (xH fr):=.mk<|λox=>(HP hg hm (ha ox) (di hs)).wk λσ H Q h=>by
 obtain⟨w,S,τ,hr,sl,q⟩:=h;refine⟨w,S,τ,hr,sl,(bg.az q).mono λxs H1 jc=>?_⟩
 obtain⟨w1,S1,ts,cW,bL,r1,_,q1⟩:=jc;split at q1
 ·unfold wH at q1
  split at q1
  ·rename_i h
   obtain⟨x,rfl,rx⟩:=fj r1;exact⟨_,by rw[aK rx],h.1,h.2,q1 w1 H1 _ (.refl _) bL aah⟩
  ·exact q1.elim
 ·exact q1.elim
noncomputable def lpS (r:RS)(g:Sm):RS:=match r with|.nx τ S=>g τ S|.ct τ S=>g τ S|.bk τ S=>.nx τ S|.rt t S=>.rt t S|.ex n S=>.ex n S|.ay=>.ay
open Classical in
noncomputable def jL (iH:Cs->Prop)(b:Tr->En->Cs->R En)(f:Sm):List Tr->En->Cs->RS
 |[],τ,S=>if iH S then .nx τ S else .ay
 |t::r,τ,S=>if iH S then (b t τ S).bU λe_ S1=>lpS (f e_ S1) (jL iH b f r) else .ay
noncomputable def Bm (fi:En->Cs->R Ax)(b:Tr->En->Cs->R En)(f:Sm):Sm:=λτ S=>(fi τ S).bU λs S1=>jL s.iH b f s.items τ S1
theorem Gd (h:bV G w (lpS r g) D)(hN:∀w' H' dP τ S,w.le w'->HR G w' S H'->Sl w' τ dP->bV G w' (g τ S) D->N dP H'):bV G w r {D with nx:=N,ct:=N,bk:=D.nx}:=by
 cases r with
 |nx τ S=>exact λw' H' dP le hr sl=>hN w' H' dP τ S le hr sl (bV.wd le h)
 |ct τ S=>exact λw' H' dP le hr sl=>hN w' H' dP τ S le hr sl (bV.wd le h)
 |bk τ S=>exact h
 |rt τ S=>exact h
 |ex τ S=>exact h
 |ay=>exact h
theorem t6 (hp:PassesOwn (model X.prog X.w) X.A X.env X.xe)(hi:RW G k X tg d8 fi)(hg:IJ G k X tg bt)(hb:F6 G k X body sb)(hs:∀x,foldedSetIterable d8 X.env x=pure x:=by intro _;rfl)(hk:0<k:=by first|decide|omega):wJ G k X (.For tg d8 body [] pos) (Bm fi bt sb):=.mk<|λox =>
 (YN hp (ox.fM hk) (hi ox) (hg ox) (hb ox) hs).wk λD σ H h=>by
  obtain⟨w,S,τ,hr,sl,q⟩:=h;refine⟨w,S,τ,hr,sl,(bV.az q).mono λJ H1 kM=>?_⟩
  obtain⟨w1,S1,s,cW,bL,it,_,q1⟩:=kM;refine⟨λi m vU H2=>∃w2 S2 iU,w1.le w2/\HR G w2 S2 H2/\Sl w2 iU vU/\i<=s.items.length/\m=s.items.length - i/\bV G w2 (jL s.iH bt sb (s.items.drop i) iU S2) D,⟨_,w1,S1,τ,.refl _,bL,sl.mono cW,zcA _,rfl,q1⟩,?_⟩
  rintro i m vU H2 ⟨w2,S2,iU,eW,dG,Dw,hi,rfl,q2⟩
  by_cases jR:i<s.items.length
  ·have ed:s.items.drop i=s.items[i]::s.items.drop (i+1):=zcL jR
   rw[ed] at q2;unfold jL at q2;split at q2
   ·rename_i hc
    obtain⟨go,yl⟩:=(it w2 S2 H2 i eW.K.symm eW.n eW.r eW.F dG hc).1 s.items[i] (zac jR)
    refine .inr ⟨go,λdP H'=>∃m',m' < s.items.length - i/\∃w2 S2 iU,w1.le w2/\HR G w2 S2 H'/\Sl w2 iU dP/\i+1<=s.items.length/\m'=s.items.length - (i+1)/\bV G w2 (jL s.iH bt sb (s.items.drop (i+1)) iU S2) D,λdP H' h=>h,λx H' hy=>?_⟩
    obtain⟨w3,i7,mG,r3⟩:=yl x H' hy;refine⟨w3,S2,iU,_,mG,Dw.mono i7,r3,(bV.az (bV.wd i7 q2)).mono λσ4 H4 ⟨w4,S4,C7,LY,Ke,sl4,_,q4⟩=>⟨w4,S4,C7,Ke,sl4,Gd q4 λw5 H5 σ5 τ5 S5 Ve hr5 sl5 q5=>?_⟩⟩
    exact⟨_,by omega,w5,S5,τ5,((eW.trans i7).trans LY).trans Ve,hr5,sl5,jR,rfl,q5⟩
   ·exact q2.elim
  ·have e:i=s.items.length:=by omega
   subst e;rw[List.drop_length] at q2;unfold jL at q2;split at q2
   ·rename_i hc
    exact .inl ⟨(it w2 S2 H2 _ eW.K.symm eW.n eW.r eW.F dG hc).2 rfl,q2 w2 H2 vU (.refl _) dG Dw⟩
   ·exact q2.elim
noncomputable def mP (c:En->Cs->R Bool)(f:Sm):Nat->En->Cs->RS
 |0,_,_=>.ay
 |n+1,τ,S=>(c τ S).bU λb S1=>if b=true then lpS (f τ S1) (mP c f n) else .nx τ S1
noncomputable def oh (n:Nat)(c:En->Cs->R Bool)(f:Sm):Sm:=mP c f n
theorem Mp (n:Nat)(hp:PassesOwn (model X.prog X.w) X.A X.env X.xe)(hc:A8 G k X c ta)(hb:F6 G k X body sb):wJ G k X (.While c body [] pos) (oh n ta sb):=.mk<|λox=>(Kz hp (hc ox) (hb ox)).wk λD σ H h=>by
 obtain⟨w,S,τ,hr,sl,q⟩:=h;refine⟨λm vU H2=>∃w2 S2 iU,w.le w2/\HR G w2 S2 H2/\Sl w2 iU vU/\bV G w2 (mP ta sb m iU S2) D,⟨n,w,S,τ,.refl _,hr,sl,q⟩,?_⟩
 rintro m vU H2 ⟨w2,S2,iU,eW,dG,Dw,q2⟩
 cases m with
 |zero=>exact q2.elim
 |succ m =>
  refine⟨w2,S2,iU,dG,Dw,(bV.az q2).mono λx H3 kO=>?_⟩
  obtain⟨w3,S3,b,i7,mG,eb,_,q3⟩:=kO;subst eb;cases b with
  |true =>
   rw[if_pos rfl] at q3;refine ze ⟨λdP H'=>∃m',m' < m+1/\∃w2 S2 iU,w.le w2/\HR G w2 S2 H'/\Sl w2 iU dP/\bV G w2 (mP ta sb m' iU S2) D,λdP H' h=>h,w3,S3,iU,mG,Dw.mono i7,Gd q3 λw5 H5 σ5 τ5 S5 Ve hr5 sl5 q5=>?_⟩
   exact⟨m,zbh _,w5,S5,τ5,(eW.trans i7).trans Ve,hr5,sl5,q5⟩
  |false =>
   rw[if_neg zag] at q3;exact zd (q3 w3 H3 vU (.refl _) mG (Dw.mono i7))
end
noncomputable def Gx.nx (G:Gx):Gx:={G with E:=E0}
theorem bE.nx:bE G.nx w H a c↔bE G w H a c:=by cases c<;>exact Iff.rfl
theorem HR.nx (h:HR G w S H):HR G.nx w S H:=⟨h.K,h.n,h.F,λi c e=>bE.nx.mpr (h.cell i c e),h.inj,h.hid,h.jZ,h.hl⟩
theorem HR.unx (h:HR G.nx w S H):HR G w S H:=⟨h.K,h.n,h.F,λi c e=>bE.nx.mp (h.cell i c e),h.inj,h.hid,h.jZ,h.hl⟩
noncomputable def jv {α:Type}(r:R α):R α:= match r with|.ok a s=>.ok a s|_=>.ay
noncomputable def jM (fr:List Nat)(n:Nat)(τ:En):En:=(fr.map λj=>(τ[j]?).join)++List.replicate n none
noncomputable def fY:En->Cs->R Bool:=λ_ S=>.ok true S
open Classical in
noncomputable def cS (iH:Cs->Prop)(b:Tr->En->Cs->R En)(c:En->Cs->R Bool)(f:Em):List Tr->En->List Tr->Cs->R (List Tr)
 |[],_,bO,S=>if iH S then .ok bO S else .ay
 |t::r,τ,bO,S=>if iH S then (jv (b t τ S)).az λe_ S1=>(jv (c e_ S1)).az λx S2=>if x=true then (jv (f e_ S2)).az λu S3=>(if bO.length<sizeLine then cS iH b c f r e_ (bO++[u]) S3 else .ay) else cS iH b c f r e_ bO S2 else .ay
noncomputable def fu (fi:En->Cs->R Ax)(fr:List Nat)(n:Nat)(b:Tr->En->Cs->R En)(c:En->Cs->R Bool)(f:Em):Em:=λτ S=>(fi τ S).az λs S1=>(cS s.iH b c f s.items (jM fr n τ) [] S1).az λl S2=>.ok (.ls l) S2
structure IP (G:Gx) (k:Nat) (X:Cx) (rF:List Expr) (c:En->Cs->R Bool):Prop where
 ku:jF G k X->DH X rF (A7 G c)
noncomputable instance {G:Gx}{k:Nat}{X:Cx}{rF:List Expr}{c:En->Cs->R Bool}:CoeFun (IP G k X rF c) (λ_=>jF G k X->DH X rF (A7 G c)):=⟨IP.ku⟩
section
variable {G:Gx}{k:Nat}{X:Cx}
theorem RY:IP G k X [] fY:=.mk<|λ_ ah s σ H Q I b9=>by obtain⟨w,S,τ,hr,sl,q⟩:=b9;exact Q4 ah s σ H Q I (q w H _ (.refl w) hr rfl)
theorem RZ (h:A8 G k X c t):IP G k X [c] t:=.mk<|λo=>Q5 (h o)
theorem jF.comp (o:jF G k X):jF G.nx k (qQ X N sc C fp s H xe):=⟨o.K,o.fM,o.room,o.un⟩
theorem R0 (sl:Sl w τ σ)(j:Nat)(h:(τ[j]?).join=some t):∃v,(σ[j]?).join=some v/\RT w t v:=by
 have e:τ[j]? = some (some t):=by
  cases q:τ[j]? with
  |none=>rw[q] at h;cases h
  |some x=>rw[q] at h;cases x with
   |none=>cases h
   |some y=>cases h;rfl
 obtain⟨v,ev,rv⟩:=sl.sM j t e;exact⟨v,by rw[ev];rfl,rv⟩
theorem Sl.comp (sl:Sl w τ σ)(fr:List Nat)(T:List Str):Sl w (jM fr T.length τ) (kF fr T σ):=by
 unfold jM kF;refine⟨by simp,λi t e=>?_⟩
 by_cases hi:i<fr.length
 ·rw[zaj (by simpa using hi),zar] at e
  rw[zaj (by simpa using hi),zar]
  rw[zac hi] at e ⊢
  have e1:(τ[fr[i]]?).join=some t:=by simpa using e
  obtain⟨v,ev,rv⟩:=R0 sl _ e1;exact⟨v,by simp[ev],rv⟩
 ·rw[zat (by simpa using hi)] at e
  rw[zcX] at e;split at e<;>cases e
variable {F T:List Str}{fr:List Nat}{sc:Scope}{Av target d8:Expr}{rF:List Expr}{pos:Pos}{fi:En->Cs->R Ax}{bt:Tr->En->Cs->R En}{fc:En->Cs->R Bool}{fe:Em}
inductive aaj|val|cel
noncomputable def aaj.fL:aaj->List Tr->Cs->R Tr|.val,l,S=>.ok (.ls l) S|.cel,l,S=>.ok (.hd S.length) (S++[.aV l])
theorem Ge (ce:aaj)(hK:X.K=G.K)(h:fS G (λτ S=>(fi τ S).az λs S1=>(cS s.iH bt fc fe s.items (jM fr T.length τ) [] S1).az λl S2=>ce.fL l S2) σ H Q):
  FY (RV G fi) fr T (ZX G.nx bt) (A7 G.nx fc) (fS G.nx fe) σ H Q:=by
 obtain⟨w,S,τ,hr,sl,q⟩:=h;refine⟨w,S,τ,hr,sl,(bg.az q).mono λJ H1 ⟨w1,S1,s,cW,bL,it,_,q1⟩=>λD hD=>?_⟩
 have hhD:=bL.F5 hD;refine⟨λi m vU xs H2=>∃w2 S2 iU bO,w2.hid=br w1.hid D (.aV xs)/\w2.K=w1.K/\w1.n<=w2.n/\(∀i,i<w1.n->w2.ρ i=w1.ρ i)/\(∀b o,w1.F b=some o->w2.F b=some o)/\HR G w2 S2 H2/\Sl w2 iU vU/\bF w2 bO xs/\i<=s.items.length/\m=s.items.length - i /\
   bg RT G w1 ((cS s.iH bt fc fe (s.items.drop i) iU bO S2).az λl S3=>ce.fL l S3) Q,?_,?_⟩
 ·refine⟨_,{w1 with hid:=br w1.hid D (.aV [])},S1,_,[],rfl,rfl,zah _,λ_ _=>rfl,λ_ _ e=>e,bL.alH hD _ (λ_ z=>by cases z),?_,.nil,zcA _,rfl,q1⟩
  have:=(sl.mono cW).comp fr T
  exact⟨this.len,λi t e=>let ⟨v,ev,rv⟩:=this.sM i t e;⟨v,ev,RT.bu _ t v rv⟩⟩
 ·rintro i m vU xs H2 ⟨w2,S2,iU,bO,eh,eK,hn,iN,hF,dG,Dw,ra,hi,rfl,q2⟩
  have hDx:w2.hid D=some (.aV xs):=by rw[eh];exact av
  refine⟨dG.hid D _ hDx,?_⟩
  by_cases jR:i<s.items.length
  ·have ed:s.items.drop i=s.items[i]::s.items.drop (i+1):=zcL jR
   rw[ed] at q2;unfold cS at q2;split at q2
   ·rename_i hc
    obtain⟨go,yl⟩:=(it w2 S2 H2 i eK.symm hn iN hF dG hc).1 s.items[i] (zac jR)
    refine .inr ⟨go,λdP ys H'=>∃m',m' < s.items.length - i/\∃w2 S2 iU bO,w2.hid=br w1.hid D (.aV ys)/\w2.K=w1.K/\w1.n<=w2.n/\(∀i,i<w1.n->w2.ρ i=w1.ρ i)/\(∀b o,w1.F b=some o->w2.F b=some o)/\HR G w2 S2 H'/\Sl w2 iU dP/\bF w2 bO ys/\i+1<=s.items.length/\m'=s.items.length - (i+1) /\
     bg RT G w1 ((cS s.iH bt fc fe (s.items.drop (i+1)) iU bO S2).az λl S3=>ce.fL l S3) Q,λdP ys H' h=>h,λx H' hy=>?_⟩
    obtain⟨w3,i7,mG,r3⟩:=yl x H' hy;refine⟨w3,S2,iU,_,mG.nx,Dw.mono i7,r3,?_⟩
    cases eb:bt s.items[i] iU S2 with
    |ok C7 S4 =>
     rw[eb] at q2;intro w4 H4 σ4 LY Ke sl4;refine⟨w4,S4,C7,Ke,sl4,?_⟩
     have q2:bg RT G w1 (((jv (fc C7 S4)).az λx S2=>if x=true then (jv (fe C7 S2)).az λu S3=>(if bO.length<sizeLine then cS s.iH bt fc fe (s.items.drop (i+1)) C7 (bO++[u]) S3 else .ay) else cS s.iH bt fc fe (s.items.drop (i+1)) C7 bO S2).az λl S3=>ce.fL l S3) Q:=q2
     cases ec:fc C7 S4 with
     |ok bb S5 =>
      rw[ec] at q2;have q2:bg RT G w1 ((if bb=true then (jv (fe C7 S5)).az λu S3=>(if bO.length<sizeLine then cS s.iH bt fc fe (s.items.drop (i+1)) C7 (bO++[u]) S3 else .ay) else cS s.iH bt fc fe (s.items.drop (i+1)) C7 bO S5).az λl S3=>ce.fL l S3) Q:=q2
      intro w5 H5 b' Ve hr5 eb';subst eb';have Ed:=(i7.trans LY).trans Ve
      have Bo:w5.hid=br w1.hid D (.aV xs)/\w5.K=w1.K/\w1.n<=w5.n/\(∀i,i<w1.n->w5.ρ i=w1.ρ i)/\(∀b o,w1.F b=some o->w5.F b=some o):=⟨Ed.hid.trans eh,Ed.K.trans eK,zai hn Ed.n,λi hi=>(Ed.r i (zao hi hn)).trans (iN i hi),λb o e=>Ed.F b o (hF b o e)⟩
      cases bb with
      |true =>
       rw[if_pos rfl] at q2;refine ze ⟨w5,S5,C7,hr5,sl4.mono Ve,?_⟩
       cases ef:fe C7 S5 with
       |ok u S6 =>
        rw[ef] at q2;have q2:bg RT G w1 ((if bO.length<sizeLine then cS s.iH bt fc fe (s.items.drop (i+1)) C7 (bO++[u]) S6 else .ay).az λl S3=>ce.fL l S3) Q:=q2
        intro w6 H6 v le6 hr6 r6;have Ef:=Ed.trans le6;split at q2
        ·rename_i cJ
         have ra6:=bF.mono Ef _ _ ra;have hD6:w6.hid D=some (.aV xs):=by rw[Ef.hid];exact hDx
         have e6:w6.hid=br w1.hid D (.aV xs):=Ef.hid.trans eh
         refine⟨hr6.unx.hid D _ hD6,by rw[ra.len];exact cJ,_,by omega,{w6 with hid:=br w6.hid D (.aV (xs++[v]))},S6,C7,bO++[u],?_,Ef.K.trans eK,zai hn Ef.n,λi hi=>(Ef.r i (zao hi hn)).trans (iN i hi),λb o e=>Ef.F b o (hF b o e),hr6.unx.ZU hD6 _ (λ_ z=>by cases z),?_,?_,jR,rfl,q2⟩
         ·show br w6.hid D _=_
          rw[e6,Fx]
         ·have:=(sl4.mono Ve).mono le6
          exact⟨this.len,λi t e=>let ⟨v,ev,rv⟩:=this.sM i t e;⟨v,ev,RT.bu _ t v rv⟩⟩
         ·exact bF.bu _ _ _ (ra6.snoc r6)
        ·exact q2.elim
       |ex n S6=>rw[ef] at q2;exact q2.elim
       |ay=>rw[ef] at q2;exact q2.elim
      |false =>
       rw[if_neg zag] at q2;refine zd ⟨_,by omega,w5,S5,C7,bO,Bo.1,Bo.2.1,Bo.2.2.1,Bo.2.2.2.1,Bo.2.2.2.2,hr5.unx,sl4.mono Ve,bF.mono Ed _ _ ra,jR,rfl,q2⟩
     |ex n S5=>rw[ec] at q2;exact q2.elim
     |ay=>rw[ec] at q2;exact q2.elim
    |ex n S4=>rw[eb] at q2;exact q2.elim
    |ay=>rw[eb] at q2;exact q2.elim
   ·exact q2.elim
  ·have e:i=s.items.length:=by omega
   subst e;rw[List.drop_length] at q2;unfold cS at q2;split at q2
   ·rename_i hc
    refine .inl ⟨(it w2 S2 H2 _ eK.symm hn iN hF dG hc).2 rfl,?_⟩
    have hF2:w2.F D=none:=by rw[dG.F];unfold Fz;rw[if_pos (.inr (by rw[hDx];simp))]
    cases ce with
    |val =>
     have q2:bg RT G w1 (.ok (.ls bO) S2) Q:=q2
     refine q2 _ _ _ ?_ (dG.ago eh hhD) ?_
     ·exact⟨eK,hn,iN,λb o e=>kH hF2 (hF b o e),rfl⟩
     ·unfold RT
      exact⟨D,xs,rfl,av,bF.tY (w:=w2) rfl (zah _) (λ_ _=>rfl) (λb o e=>kH hF2 e) ra⟩
    |cel =>
     have q2:bg RT G w1 (.ok (.hd S2.length) (S2++[.aV bO])) Q:=q2
     have lu:=({w2 with hid:=w1.hid}:Wd).tG D
     refine q2 _ _ _ ?_ (dG.Rt eh hhD (c:=.aV bO) rfl ⟨xs,dG.hid D _ hDx,?_⟩) ?_
     ·exact⟨eK,zai hn lu.n,λi hi=>(lu.r i (zao hi hn)).trans (iN i hi),λb o e=>hF b o e,rfl⟩
     ·exact bF.mono lu _ _ (bF.bu _ _ _ ra)
     ·unfold RT
      refine⟨by show S2.length<w2.n+1;rw[dG.n];exact zbh _,?_⟩
      show V.ref D=V.ref (if S2.length=w2.n then D else w2.ρ S2.length)
      rw[if_pos dG.n.symm]
   ·exact q2.elim
theorem ia (S:dB X F T fr sc)(hi:RW G k X target d8 fi)(hg:∀C fp s H xe,IJ G.nx k (qQ X (F++T) sc C fp s H xe) target bt)(Q6:∀C fp s H xe,IP G.nx k (qQ X (F++T) sc C fp s H xe) rF fc)
  (he:∀C fp s H xe,TV G.nx k (qQ X (F++T) sc C fp s H xe) Av fe) (hs:∀x,foldedSetIterable d8 X.env x=pure x:=by intro _;rfl) (hk:0<k:=by first|decide|omega):TV G k X (.ListComp Av [⟨target,d8,rF,0⟩] sc pos) (fu fi fr T.length bt fc fe):=.mk<|λo =>
 (Q9 S (o.fM hk) (hi o) (λC fp s H xe=>hg C fp s H xe o.comp) (λC fp s H xe=>Q6 C fp s H xe o.comp) (λC fp s H xe=>he C fp s H xe o.comp) hs).wk λ_ _ _ h=>Ge .val o.K h
theorem zB (S:dB X F T fr sc)(hi:RW G k X target d8 fi)(hg:∀C fp s H xe,IJ G.nx k (qQ X (F++T) sc C fp s H xe) target bt)(Q6:∀C fp s H xe,IP G.nx k (qQ X (F++T) sc C fp s H xe) rF fc)
  (he:∀C fp s H xe,TV G.nx k (qQ X (F++T) sc C fp s H xe) Av fe) (hN:X.N.Nodup) (hiy:X.N[i0]? = some y) (hly:X.env.scope.names.lookup y=some .local) (hex:X.ex=[])
  (Rm:swapsWith (.ListComp Av [⟨target,d8,rF,0⟩] sc pos) (some (.Name y py)) ZJ.line X.env=pure true:=by rfl) (hs:∀x,foldedSetIterable d8 X.env x=pure x:=by intro _;rfl) (hk:0<k:=by first|decide|omega):
  wJ G k X (.Assign [.Name y py] (.ListComp Av [⟨target,d8,rF,0⟩] sc pos) ZJ) (aR i0 (fu fi fr T.length bt fc fe)):=.mk<|λo =>
 (Rl S (o.fM hk) (hi o) (λC fp s H xe=>hg C fp s H xe o.comp) (λC fp s H xe=>Q6 C fp s H xe o.comp) (λC fp s H xe=>he C fp s H xe o.comp) hN hiy hly hex Rm hs).wk λD σ H h=>Ge .val o.K (Ml h)
end
noncomputable abbrev Fn:=List Tr->Cs->R Tr
noncomputable def dS (K:W.Frag)(cl:Str->Addr)(n:Nat)(q:Fn):Sp:=λvs H Q E=>∃w S ts,HR ⟨K,cl,E⟩ w S H/\bF w ts vs/\ts.length=n/\bg RT ⟨K,cl,E⟩ w (q ts S) Q
noncomputable def dR (n:Nat)(q:Fn)(fr:En->Cs->R (List Tr)):Em:=λτ S=>(fr τ S).az λts S1=>if ts.length=n then q ts S1 else .ay
section
variable {G:Gx}{k j n:Nat}{X:Cx}{CX:CW}{f C:Addr}{fd:FuncData}{ps:List Str}{q:Fn}{x m:Str}{p pos eX gx:Pos}{e o:Expr}{es:List Expr}{fr:En->Cs->R (List Tr)}{fo:Em}
theorem agK (h:fS G (dR n q fr) σ H Q):UM (dS G.K G.cl n q) [] G.E (DS G fr) σ H Q:=by
 obtain⟨w,S,τ,hr,sl,qq⟩:=h;refine⟨w,S,τ,hr,sl,(bg.az qq).mono λvs H1 b9=>?_⟩
 obtain⟨w1,S1,ts,cW,bL,r1,_,q1⟩:=b9;split at q1
 ·rename_i hn
  rw[zaw];exact⟨w1,S1,ts,bL,r1,hn,q1⟩
 ·exact q1.elim
theorem zC (F:aO X.prog X.w X.K X.mg X.base CX j f fd ps (dS G.K G.cl n q))(hj:j<=k)(hm:X.mg x=some (.ref f))(hk:W.keepIn X.K (.ref f)=true)(hb:eO X.K fd ps [])(hx:gB CX X G.E)(ha:wI G k X (e::es) fr)
  (hg:Gl X x:=by rfl) (sP:(x == ("__debug__" : Str))=false:=by decide) (he:dN e=false:=by rfl) (hpl:dh es=true:=by rfl) (C8:0<k:=by first|decide|omega):
  TV G k X (.Call (.Name x p) (e::es) [] pos) (dR n q fr):=.mk<|λox=>(QC F ((ox.room C8).mono hj) hg hm hk hb .nil hx (ha ox) sP (di he) (fX hpl)).wk λ_ _ _ h=>agK h
noncomputable def aN (c m:Str)(n:Nat)(q:Fn)(fo:Em)(fr:En->Cs->R (List Tr)):Em:=λτ S=>(fo τ S).az λt S1=>match t with
 |.hd i=>(match iO S1 i with
  |some (c',fs)=>if c'=c/\(aP m fs).isNone=true then (fr τ S1).az λts S2=>(if (t::ts).length=n then q (t::ts) S2 else .ay) else .ay
  |none=>.ay)
 |_=>.ay
theorem Gf (h:fS G (aN c m n q fo fr) σ H Q):FL (G.cl c) m (dS G.K G.cl n q) [] G.E (fS G fo) (DS G fr) σ H Q:=by
 obtain⟨w,S,τ,hr,sl,qq⟩:=h;refine⟨w,S,τ,hr,sl,(bg.az qq).mono λv H1 cZ=>?_⟩
 obtain⟨w1,S1,t,cW,bL,r1,_,q1⟩:=cZ;split at q1
 ·split at q1
  ·rename_i c' fs ei
   split at q1
   ·rename_i hc
    obtain⟨rfl,hm⟩:=hc;obtain⟨dx,wG,h1,h2⟩:=bL.cell _ _ (fG ei)
    refine⟨_,dx,wG,r1.cT.2,h1,(iA (k:=m) h2).2 (zdR.mp hm),w1,S1,τ,bL,sl.mono cW,(bg.az q1).mono λvs H2 dF=>?_⟩
    obtain⟨w2,S2,ts,eW,dG,r2,_,q2⟩:=dF;split at q2
    ·rename_i hn
     rw[zaw];exact⟨w2,S2,_,dG,.cons (RT.mono eW _ _ r1) r2,hn,q2⟩
    ·exact q2.elim
   ·exact q1.elim
  ·exact q1.elim
 ·exact q1.elim
theorem bN (hc:vV G.K (G.cl c))(hM:dD G.K (G.cl c) m f)(F:aO X.prog X.w X.K X.mg X.base CX j f fd ps (dS G.K G.cl n q))(hj:j<=k)(hb:eO X.K fd ps [])(hx:gB CX X G.E)(ho:TV G k X o fo)(ha:wI G k X (e::es) fr)
  (qa:dN e=false:=by rfl) (hpl:dh es=true:=by rfl)
  (ht:eval (.Call (.Attribute o m eX) (e::es) [] pos) X.env=(do
   let ov <-eval o X.env
   standAt eX.atName
   let (f,first) <-holding [ov] (getMethod ov m pl)
   callWith pos f first (backTo pos (starEach (e::es) X.env)) (backToKw pos (keywordEach [] X.env))):=by rfl) (C8:0<k:=by first|decide|omega):TV G k X (.Call (.Attribute o m eX) (e::es) [] pos) (aN c m n q fo fr):=.mk<|λox =>
 (QD (ho ox) (by rw[ox.K];exact hc) (by rw[ox.K];exact hM) F ((ox.room C8).mono hj) hb .nil hx (ha ox) (di qa) (fX hpl) ht).wk λ_ _ _ h=>Gf h
theorem aT (hc:vV G.K (G.cl c))(hM:dD G.K (G.cl c) m f)(F:aO X.prog X.w X.K X.mg X.base CX j f fd ps (dS G.K G.cl n q))(hj:j<=k)(hb:eO X.K fd ps [])(hx:gB CX X G.E)(ho:TV G k X o fo)
  (ht:eval (.Call (.Attribute o m eX) [] [] pos) X.env=(do
   let ov <-eval o X.env
   standAt eX.atName
   let (f,first) <-holding [ov] (getMethod ov m pl)
   callWith pos f first (backTo pos (starEach [] X.env)) (backToKw pos (keywordEach [] X.env))):=by rfl) (C8:0<k:=by first|decide|omega):TV G k X (.Call (.Attribute o m eX) [] [] pos) (aN c m n q fo aj):=.mk<|λox =>
 (KY (ho ox) (by rw[ox.K];exact hc) (by rw[ox.K];exact hM) F ((ox.room C8).mono hj) hb .nil hx ht).wk λσ H Q h=>by
  obtain⟨w,S,τ,hr,sl,qq⟩:=Gf h;refine⟨w,S,τ,hr,sl,qq.mono λv H1 ⟨a,dx,fs,e1,h1,hl,⟨w1,S1,e_,bL,DP,q1⟩⟩=>⟨a,dx,fs,e1,h1,hl,?_⟩⟩
  exact q1 w1 H1 [] (.refl _) bL .nil
noncomputable def xJ (c:Str)(n:Nat)(q:Fn)(fr:En->Cs->R (List Tr)):Em:=λτ S=>(fr τ S).az λts S1=>if ts.length+1=n then (q (.hd S1.length::ts) (S1++[.fE c []])).az λr S2=>(match r with|.bw=>.ok (.hd S1.length) S2|_=>.ay) else .ay
theorem R3 (h:fS G (xJ c n q fr) σ H Q):UN (G.cl c) (dS G.K G.cl n q) [] G.E (DS G fr) σ H Q:=by
 obtain⟨w,S,τ,hr,sl,qq⟩:=h;refine⟨w,S,τ,hr,sl,(bg.az qq).mono λvs H1 ⟨w1,S1,ts,cW,bL,r1,_,q1⟩=>λx dx hx hdx ne=>?_⟩
 split at q1
 ·rename_i hn
  obtain⟨h2,eW⟩:=bL.ZT hdx (.sD x)
  have hx2:br H1 dx (.sD x) x=none:=by rw[aq (zbj ne)];exact hx
  obtain⟨h3,i7⟩:=h2.II hx2 (o:=.fE (G.cl c) dx []) (c:=.fE c []) rfl ⟨dx,[],av,.nil⟩
  have iN:(({w1 with F:=br w1.F dx (.sD x)}:Wd).up x).ρ S1.length=x:=by
   show (if S1.length=w1.n then x else w1.ρ S1.length)=x
   rw[if_pos bL.n.symm]
  rw[zaw];refine⟨_,_,.hd S1.length::ts,h3,.cons ?_ (bF.mono (eW.trans i7) _ _ r1),by simpa using hn,(bg.az (bg.wd (eW.trans i7) q1)).mono λv H4 ⟨w4,S4,t4,LY,Ke,r4,_,q4⟩=>?_⟩
  ·unfold RT
   exact⟨by show S1.length<w1.n+1;rw[bL.n];exact zbh _,by rw[iN]⟩
  ·split at q4
   ·refine⟨je r4,q4 w4 H4 _ (.refl _) Ke ?_⟩
    have jR:S1.length<(({w1 with F:=br w1.F dx (.sD x)}:Wd).up x).n:=by show S1.length<w1.n+1;rw[bL.n];exact zbh _
    unfold RT;exact⟨zao jR LY.n,by rw[LY.r _ jR,iN]⟩
   ·exact q4.elim
 ·exact q1.elim
theorem Gg (M:Mk G.K (G.cl c) f)(F:aO X.prog X.w X.K X.mg X.base CX j f fd ps (dS G.K G.cl n q))(hj:j+1<=k)(hm:X.mg x=some (.ref (G.cl c)))(hb:eO X.K fd ps [])(hx:gB CX X G.E)(ha:wI G k X (e::es) fr)
  (hg:Gl X x:=by rfl) (sP:(x == ("__debug__" : Str))=false:=by decide) (he:dN e=false:=by rfl) (hpl:dh es=true:=by rfl) (C8:0<k:=by first|decide|omega):
  TV G k X (.Call (.Name x p) (e::es) [] pos) (xJ c n q fr):=.mk<|λox=>(QE (by rw[ox.K];exact M) F ((ox.room C8).mono hj) hg hm hb .nil hx (ha ox) sP (di he) (fX hpl)).wk λ_ _ _ h=>R3 h
noncomputable def gE (N:List Str)(ts:List Tr):En:=ts.map some++List.replicate (N.length - ts.length) none
noncomputable def dI (N:List Str)(sb:Sm):Fn:=λts S=>match sb (gE N ts) S with|.nx _ S'=>.ok .bw S' | .rt t S'=>.ok t S' | _=>.ay
theorem Sl.cV (N:List Str)(r:bF w ts vs):Sl w (gE N ts) (cV N vs):=by
 unfold gE L2.cV;refine⟨by simp[r.len],λi t e=>?_⟩
 by_cases hi:i<ts.length
 ·rw[zaj (by simpa using hi),zar] at e
  rw[zaj (by rw[zaf,r.len];exact hi),zar]
  cases et:ts[i]? with
  |none=>rw[et] at e;cases e
  |some u =>
   rw[et] at e;cases e;obtain⟨v,ev,rv⟩:=r.get et;exact⟨v,by rw[ev];rfl,rv⟩
 ·rw[zat (by simpa using hi)] at e
  rw[zcX] at e;split at e<;>cases e
variable {P:Program}{w:World}{K:W.Frag}{mg:Str->Option Value}{base:Heap}{cl:Str->Addr}{N:List Str}{bX:Str}{st:Stmt}{sb:Sm}
theorem aW (F:J_ K x bX st f fd)(Sc:au N ps (ak st))
  (hb:∀fC A outer s H E,F6 ⟨K,cl,E0⟩ k (jw eS P w K mg base N bX (ak st) f fC A outer s H E).CV (cR st) sb):aO P w K mg base eS (k+1) f fd ps (dS K cl ps.length (dI N sb)):=by
 refine F.ok Sc (λvs H Q E iy=>by obtain⟨w,S,ts,hr,r,hn,_⟩:=iy;rw[r.len,hn]) λfC A outer s H vs Q E hr jc=>?_
 obtain⟨w,S,ts,P7,r,hn,q⟩:=jc;refine⟨_,hb fC A outer s H E ⟨rfl,λ_=>rfl,λ_=>hr,zbT (Nat.add_le_add_right (zaZ _ _) 200) hr.un⟩,w,S,gE N ts,⟨P7.K,P7.n,P7.F,λi c e=>P7.nx.cell i c e,P7.inj,P7.hid,P7.jZ,P7.hl⟩,Sl.cV N r,?_⟩
 have conv:∀{w' S' H'},HR (⟨K,cl,E0⟩:Gx) w' S' H'->HR ⟨K,cl,E⟩ w' S' H':=λh=>HR.unx (G:=⟨K,cl,E⟩) h
 unfold dI at q;cases e:sb (gE N ts) S with
 |nx lQ S'=>rw[e] at q;exact λw' H' dP le wM sl'=>q w' H' _ le (conv wM) qo
 |rt t S'=>rw[e] at q;exact λw' H' v le wM rv=>q w' H' v le (conv wM) rv
 |bk lQ S'=>rw[e] at q;exact q.elim
 |ct lQ S'=>rw[e] at q;exact q.elim
 |ex lQ S'=>rw[e] at q;exact q.elim
 |ay=>rw[e] at q;exact q.elim
mutual
noncomputable def Tr.az (m:Nat):Tr->Bool
 |.tp l=>Tr.jN m l
 |.ls l=>Tr.jN m l
 |.kt l=>Tr.jN m l
 |.kl l=>Tr.jN m l
 |.hd n=>decide (n<m)
 |_=>true
noncomputable def Tr.jN (m:Nat):List Tr->Bool
 |[]=>true
 |t::l=>Tr.az m t && Tr.jN m l
end
mutual
theorem RT.az {w:Wd}:∀(t:Tr) (v:V),RT w t v->t.az w.n=true
 |.tp l,v,r=>by unfold RT at r;unfold Tr.az;obtain⟨_,xs,_,_,r⟩:=r;exact bF.az l xs r
 |.ls l,v,r=>by unfold RT at r;unfold Tr.az;obtain⟨_,xs,_,_,r⟩:=r;exact bF.az l xs r
 |.kt l,v,r=>by unfold RT at r;unfold Tr.az;obtain⟨_,xs,_,_,r⟩:=r;exact bF.az l xs r
 |.kl l,v,r=>by unfold RT at r;unfold Tr.az;obtain⟨_,xs,_,_,r⟩:=r;exact bF.az l xs r
 |.hd n,v,r=>by unfold Tr.az;exact decide_eq_true r.cT.1
 |.bw,v,r=>by unfold Tr.az;rfl
 |.bl _,v,r=>by unfold Tr.az;rfl
 |.int _,v,r=>by unfold Tr.az;rfl
 |.str _,v,r=>by unfold Tr.az;rfl
theorem bF.az {w:Wd}:∀(l:List Tr) (xs:List V),bF w l xs->Tr.jN w.n l=true
 |[],xs,r=>by unfold Tr.jN;rfl
 |t::l,xs,r=>by
  obtain⟨x,r',rfl,h1,h2⟩:=r.bh;unfold Tr.jN;rw[RT.az t x h1,bF.az l r' h2];rfl
end
mutual
theorem RT.nM {w:Wd}{m:Nat}(hF:∀b o,w.F b=some o->F' b=some o):∀(t:Tr) (v:V),RT w t v->t.az m=true->RT {w with n:=m,F:=F' } t v
 |.tp l,v,r,h=>by unfold RT at r ⊢;unfold Tr.az at h;obtain⟨a,xs,e,s,r⟩:=r;exact⟨a,xs,e,hF _ _ s,bF.nM hF l xs r h⟩
 |.ls l,v,r,h=>by unfold RT at r ⊢;unfold Tr.az at h;obtain⟨a,xs,e,s,r⟩:=r;exact⟨a,xs,e,hF _ _ s,bF.nM hF l xs r h⟩
 |.kt l,v,r,h=>by unfold RT at r ⊢;unfold Tr.az at h;obtain⟨a,xs,e,s,r⟩:=r;exact⟨a,xs,e,s.mono hF,bF.nM hF l xs r h⟩
 |.kl l,v,r,h=>by unfold RT at r ⊢;unfold Tr.az at h;obtain⟨a,xs,e,s,r⟩:=r;exact⟨a,xs,e,s.mono hF,bF.nM hF l xs r h⟩
 |.hd n,v,r,h=>by unfold RT;unfold Tr.az at h;exact⟨of_decide_eq_true h,r.cT.2⟩
 |.bw,v,r,h=>by unfold RT at r ⊢;exact r
 |.bl _,v,r,h=>by unfold RT at r ⊢;exact r
 |.int _,v,r,h=>by unfold RT at r ⊢;exact r
 |.str _,v,r,h=>by unfold RT at r ⊢;exact r
theorem bF.nM {w:Wd}{m:Nat}(hF:∀b o,w.F b=some o->F' b=some o):∀(l:List Tr) (xs:List V),bF w l xs->Tr.jN m l=true->bF {w with n:=m,F:=F' } l xs
 |[],xs,r,h=>by rw[r.bP];exact .nil
 |t::l,xs,r,h=>by
  obtain⟨x,r',rfl,h1,h2⟩:=r.bh;unfold Tr.jN at h;have h:=zbw.mp h;exact .cons (RT.nM hF t x h1 h.1) (bF.nM hF l r' h2 h.2)
end
noncomputable def agL (m:Nat):Ce->Bool
 |.tF=>true
 |.aV l=>Tr.jN m l
 |.gQ l=>Tr.jN m (l.map Prod.snd)
 |.fE _ l=>Tr.jN m (l.map Prod.snd)
 |.wD _ l=>Tr.jN m (l.map Prod.snd)
 |.P4 l=>Tr.jN m (l.map Prod.snd)
 |.wF l=>Tr.jN m (l.map Prod.snd)
 |.DR l=>Tr.jN m (l.map Prod.snd)
theorem bE.az {w:Wd}(h:bE G w H a c):agL w.n c=true:=by
 cases c with
 |tF=>rfl
 |aV l=>obtain⟨xs,_,r⟩:=h;exact bF.az _ _ r
 |gQ l=>obtain⟨xs,_,r⟩:=h;exact bF.az _ _ r.2
 |fE c l=>obtain⟨_,xs,_,r⟩:=h;exact bF.az _ _ r.2
 |wD c l=>obtain⟨_,_,xs,_,_,_,_,_,r⟩:=h;exact bF.az _ _ r.2
 |P4 l=>obtain⟨xs,_,r⟩:=h;exact bF.az _ _ r.2
 |wF l=>obtain⟨_,xs,_,r⟩:=h;exact bF.az _ _ r.2
 |DR l=>obtain⟨_,xs,_,r⟩:=h;exact bF.az _ _ r.2
theorem bE.cut {w:Wd}{m:Nat}(hF:∀b o,w.F b=Option.some o->F' b=Option.some o)(h:bE G w H a c)(hb:agL m c=true):bE G {w with n:=m,F:=F' } H a c:=by
 cases c with
 |tF=>trivial
 |aV l=>obtain⟨xs,e,r⟩:=h;exact⟨xs,e,bF.nM hF _ _ r hb⟩
 |gQ l=>obtain⟨xs,e,r⟩:=h;exact⟨xs,e,r.1,bF.nM hF _ _ r.2 hb⟩
 |fE c l=>obtain⟨dx,xs,e,r⟩:=h;exact⟨dx,xs,e,r.1,bF.nM hF _ _ r.2 hb⟩
 |wD c l=>obtain⟨T,d,xs,e,e2,e3,n1,n2,r⟩:=h;exact⟨T,d,xs,e,hF _ _ e2,hF _ _ e3,n1,n2,r.1,bF.nM hF _ _ r.2 hb⟩
 |P4 l=>obtain⟨xs,e,r⟩:=h;exact⟨xs,e,r.1,bF.nM hF _ _ r.2 hb⟩
 |wF l=>obtain⟨o,xs,e,r⟩:=h;exact⟨o,xs,hF _ _ e,r.1,bF.nM hF _ _ r.2 hb⟩
 |DR l=>obtain⟨o,xs,e,r⟩:=h;exact⟨o,xs,hF _ _ e,r.1,bF.nM hF _ _ r.2 hb⟩
noncomputable def Bp (m:Nat)(S:Cs)(t:Tr):Option Tr:=match t with
 |.hd n=>if n<m then some (.hd n) else (match cO S n with|some l=>if Tr.jN m l=true then some (.ls l) else none|none=>none)
 |t=>if t.az m=true then some t else none
open Classical in
noncomputable def qU (q:Fn):Fn:=λts S=>match q ts S with
 |.ok t S1=>if S1.take S.length=S then (match Bp S.length S1 t with|some u=>.ok u S|none=>.ay) else .ay
 |.ex n S1=>.ex n S1
 |.ay=>.ay
open Classical in
theorem R4 {H:Hp}(h:dS K cl n (qU q) vs H Q E):dS K cl n q vs H Q E:=by
 obtain⟨w,S,ts,hr,r,hn,qq⟩:=h;refine⟨w,S,ts,hr,r,hn,?_⟩
 unfold qU at qq;cases e:q ts S with
 |ex m S1=>rw[e] at qq;exact qq
 |ay=>rw[e] at qq;exact qq
 |ok t S1 =>
  rw[e] at qq;have qq:bg RT ⟨K,cl,E⟩ w (if S1.take S.length=S then (match Bp S.length S1 t with|some u=>.ok u S|none=>.ay) else .ay) Q:=qq
  split at qq
  ·rename_i hS
   split at qq
   ·rename_i u eu
    intro w1 H1 v cW bL rv;have hm:S.length<=S1.length:=by
     have:=congrArg List.length hS
     rw[zaB] at this;omega
    have hF:∀b o,w1.F b=some o->Fz w1.ρ w1.hid (S1.take S.length) H1 b=some o:=λb o e=>ZW b o (by rw[<-bL.F];exact e)
    have dG:=bL.cut hm λi c ec=>by
     have hi:=(zae.mp ec).1
     rw[zaB] at hi;have ec1:S1[i]? = some c:=by rw[zbG (by omega)] at ec;exact ec
     rw[hS] at ec;have hb:=(hr.cell i c ec).az
     rw[hr.n] at hb;exact (bL.cell i c ec1).cut hF hb
    have eW:w.le {w1 with n:=S.length,F:=Fz w1.ρ w1.hid (S1.take S.length) H1}:=⟨cW.K,by show w.n<=S.length;rw[hr.n];exact zah _,cW.r,λb o e=>hF b o (cW.F b o e),cW.hid⟩
    rw[hS] at dG eW hF;refine qq _ _ _ eW dG ?_
    unfold Bp at eu;split at eu
    ·rename_i n
     split at eu
     ·cases eu
      rename_i jR;unfold RT;exact⟨jR,rv.cT.2⟩
     ·rename_i hge
      split at eu
      ·rename_i l el
       split at eu
       ·rename_i hb
        cases eu;obtain⟨xs,h1,h2⟩:=bL.cell _ _ (cA el)
        have lv:eU S1 n:=⟨_,cA el,rfl⟩
        unfold RT;refine⟨_,xs,rv.cT.2,?_,bF.nM hF _ _ h2 hb⟩
        show Fz w1.ρ w1.hid S H1 (w1.ρ n)=_
        unfold Fz;rw[if_neg,h1];rintro (⟨i,li,ei⟩|z)
        ·have li1:eU S1 i:=by
          obtain⟨c,ec,nc⟩:=li;have hi:=(zae.mp ec).1
          rw[<-hS,zbG (by omega)] at ec
          exact⟨c,ec,nc⟩
         have:=bL.inj i n li1 lv ei
         subst this;exact hge li.lt
        ·exact z (bL.jZ n lv)
       ·cases eu
      ·cases eu
    ·split at eu
     ·cases eu
      exact RT.nM hF _ _ rv (by assumption)
     ·cases eu
   ·exact qq.elim
  ·exact qq.elim
theorem aO.pure (F:aO P w K mg base CX j f fd ps (dS K cl n q)):aO P w K mg base CX j f fd ps (dS K cl n (qU q)):=F.imp λ_ _ _ _ h=>R4 h
end
section
variable {G:Gx}{k:Nat}{X:Cx}{a b c o e kx vx:Expr}{es:List Expr}{ks:List (Option Expr)}{vs:List Expr}{fo fe ff fk fv:Em}{pos eX gx:Pos}
noncomputable def Eg:Em:=λ_ S=>.ok (.hd S.length) (S++[.gQ []])
theorem Mq:TV G k X (.Dict [] [] pos) Eg:=.mk<|λ_=>K4.wk λσ H Q h=>by
 obtain⟨w,S,τ,hr,sl,q⟩:=h;intro p hp;obtain⟨h2,le⟩:=hr.II (c:=.gQ []) hp (o:=.dK []) rfl ⟨[],av,.nil⟩
 refine q _ _ _ le h2 ?_
 unfold RT;exact⟨by show S.length<w.n+1;rw[hr.n];exact zbh _,by show V.ref p=V.ref (if S.length=w.n then p else w.ρ S.length);rw[if_pos hr.n.symm]⟩
noncomputable def IQ:List (Em×Em)->En->Cs->R (List (dz×Tr))
 |[],_,S=>.ok [] S
 | (fk,fv)::r,τ,S=>(fk τ S).az λt S1=>(fv τ S1).az λu S2=>(IQ r τ S2).az λl S3=>match gU t with|some j=>.ok ((j,u)::l) S3|none=>.ay
noncomputable def pC (ps:List (Em×Em)):Em:=λτ S=>(IQ ps τ (S++[.gQ []])).az λl S1=>match mH S1 S.length with
 |some []=>if l.length<=15 then .ok (.hd S.length) (S1.set S.length (.gQ (eB [] l))) else .ay
 |_=>.ay
noncomputable def Mr (G:Gx)(ps:List (Em×Em)):List (TE×TE):=ps.map λp=>(fS G p.1,fS G p.2)
structure TVP (G:Gx) (k:Nat) (X:Cx) (pos:Pos) (ks:List (Option Expr)) (vs:List Expr) (ps:List (Em×Em)):Prop where
 ku:jF G k X->PPs X pos ks vs (Mr G ps)
noncomputable instance {G:Gx}{k:Nat}{X:Cx}{pos:Pos}{ks:List (Option Expr)}{vs:List Expr}{ps:List (Em×Em)}:CoeFun (TVP G k X pos ks vs ps) (λ_=>jF G k X->PPs X pos ks vs (Mr G ps)):=⟨TVP.ku⟩
theorem om:TVP G k X pos [] [] []:=.mk<|λ_=>QL
theorem zD (hk:TV G k X kx fk)(hv:TV G k X vx fv)(hr:TVP G k X pos ks vs ps):TVP G k X pos (some kx::ks) (vx::vs) ((fk,fv)::ps):=.mk<|λo=>K5 (hk o) (hv o) (hr o)
theorem Ms:∀(ps:List (Em×Em)) {w:Wd} {S:Cs} {τ:En} {σ:St} {H:Hp} {Q:List (V×V)->Hp->Prop},HR G w S H->Sl w τ σ ->
  bg (λw (l:List (dz×Tr)) (m:List (V×V))=>∃aJ,m=aJ.map (λkv=>(kV kv.1,kv.2))/\RK w l aJ) G w (IQ ps τ S) Q->yR (Mr G ps) σ H Q
 |[],w,S,τ,σ,H,Q,hr,sl,q=>q w H [] (.refl w) hr ⟨[],rfl,.nil⟩
 | (fk,fv)::r,w,S,τ,σ,H,Q,hr,sl,q=>by
  refine⟨w,S,τ,hr,sl,(bg.az q).mono λx H1 b9=>?_⟩
  obtain⟨w1,S1,t,cW,bL,r1,_,q1⟩:=b9;refine⟨w1,S1,τ,bL,sl.mono cW,(bg.az q1).mono λy H2 cZ=>?_⟩
  obtain⟨w2,S2,u,eW,dG,r2,_,q2⟩:=cZ;refine Ms r dG ((sl.mono cW).mono eW) ((bg.az q2).mono λm H3 dF=>?_)
  obtain⟨w3,S3,l,i7,mG,⟨aJ,em,rk⟩,_,q3⟩:=dF
  split at q3
  ·rename_i j ej
   refine q3 w3 H3 _ (.refl _) mG ⟨(j,y)::aJ,?_,.cons (RT.mono i7 _ _ r2) rk⟩
   rw[em,zau,gD ej r1]
  ·exact q3.elim
theorem zE (h:TVP G k X pos ks vs ps)(K6:ks.all (·.isSome)=true:=by rfl)(hl:ks.length=vs.length:=by rfl)(h0:ks≠[]:=by simp)(h15:ks.length<=15:=by decide):TV G k X (.Dict ks vs pos) (pC ps):=.mk<|λox=>(QM (h ox) K6 hl h0 h15).wk λσ H Q h=>by
 obtain⟨w,S,τ,hr,sl,q⟩:=h;intro p hp;obtain⟨h2,le⟩:=hr.II (c:=.gQ []) hp (o:=.dK []) rfl ⟨[],av,.nil⟩
 have jR:S.length<(w.up p).n:=by show S.length<w.n+1;rw[hr.n];exact zbh _
 have iN:(w.up p).ρ S.length=p:=by show (if S.length=w.n then p else w.ρ S.length)=p;rw[if_pos hr.n.symm]
 refine Ms ps h2 (sl.mono le) ((bg.az (bg.wd le q)).mono λm H2 mj=>?_)
 obtain⟨w2,S2,l,eW,dG,⟨aJ,em,rk⟩,_,q2⟩:=mj
 split at q2
 ·rename_i ed
  split at q2
  ·rename_i h15
   obtain⟨aqG,h3,h4⟩:=dG.cell _ _ (gY ed)
   have aak:w2.ρ S.length=p:=(eW.r _ jR).trans iN
   rw[aak,h4.bP] at h3;refine⟨h3,aJ,em,by rw[rk.len];exact h15,?_⟩
   have h5:HR G w2 (S2.set S.length (.gQ (eB [] l))) (br H2 (w2.ρ S.length) (.dK (gh [] aJ))):=dG.Dv (gY ed) rfl rfl ⟨_,av,RK.AR rk .nil⟩
   rw[aak] at h5;refine q2 w2 _ _ (.refl _) h5 ?_
   unfold RT;exact⟨zao jR eW.n,by rw[aak]⟩
  ·exact q2.elim
 ·exact q2.elim
noncomputable def Gh (fo fe ff:Em):Em:=λτ S=>(fo τ S).az λt S1=>if ckD S1 t=true then (fe τ S1).az λj S2=>(ff τ S2).az λu S3=>(match F7 S3 t,gU j with|some m,some q=>.ok ((aP q m).getD u) S3|_,_=>.ay) else .ay
theorem aal (hr:HR G w S H)(r:RT w t v)(h:ckD S t=true):∃n,t = .hd n/\v = .ref (w.ρ n)/\IsD H (w.ρ n):=by
 unfold ckD at h;obtain⟨m,em⟩:=zcj.mp h;obtain⟨n,aJ,e1,_,e2,h1,_⟩:=tQ hr r em;exact⟨n,e1,e2,.inl ⟨aJ,.inl h1⟩⟩
theorem IS {j:dz}(R:RK w m aJ)(ru:RT w u z):RT w ((aP j m).getD u) ((lO aJ j).getD z):=by
 obtain⟨h1,h2⟩:=mJ (k:=j) R
 cases e:aP j m with
 |none=>rw[h2 e];exact ru
 |some t=>obtain⟨v,ev,rv⟩:=h1 t e;rw[ev];exact rv
theorem Gi (ho:TV G k X o fo)(he:TV G k X e fe)(hf:TV G k X c ff)(m:M2 X o "get" eX e c gx:=by exact⟨rfl,rfl,rfl,rfl⟩):TV G k X (.Call (.Attribute o "get" eX) [e,c] [] gx) (Gh fo fe ff):=.mk<|λox=>(K7 ox.hu1 (ho ox) (he ox) (hf ox) m).wk λσ H Q h=>by
 obtain⟨w,S,τ,hr,sl,q⟩:=h;refine⟨w,S,τ,hr,sl,(bg.az q).mono λx H1 jV=>?_⟩
 obtain⟨w1,S1,t,cW,bL,r1,_,q1⟩:=jV;split at q1
 ·rename_i hck
  obtain⟨n,rfl,e2,hd⟩:=aal bL r1 hck;refine⟨_,e2,hd,w1,S1,τ,bL,sl.mono cW,(bg.az q1).mono λy H2 mq=>?_⟩
  obtain⟨w2,S2,j,eW,dG,r2,_,q2⟩:=mq;refine⟨w2,S2,τ,dG,(sl.mono cW).mono eW,(bg.az q2).mono λz H3 iy=>?_⟩
  obtain⟨w3,S3,u,i7,mG,r3,_,q3⟩:=iy;split at q3
  ·rename_i mm qk em ek
   obtain⟨n',aJ,e4,_,_,h4,R⟩:=tQ mG (RT.mono (eW.trans i7) _ _ r1) em
   cases e4;rw[(eW.trans i7).r _ r1.cT.1] at h4;refine⟨lO aJ qk,by rw[gD ek (RT.mono i7 _ _ r2)];exact nJ.k h4,q3 w3 H3 _ (.refl _) mG (IS R r3)⟩
  ·exact q3.elim
 ·exact q1.elim
noncomputable def aam (f:Em):Em:=λτ S=>(f τ S).az λt S1=>match t with
 |.str x=>if x.length<=sizeLine then .ok (.str x) S1 else .ay
 |.int i=>if i.natAbs.log2<1920 then .ok (.str (toString i)) S1 else .ay
 |_=>.ay
theorem aan (h:TV G k X a fo):TV G k X (.FormattedValue a (-1) none pos) (aam fo):=.mk<|λox=>(ZE (h ox)).wk λσ H Q h=>by
 obtain⟨w,S,τ,hr,sl,q⟩:=h;refine⟨w,S,τ,hr,sl,(bg.az q).mono λx H1 o8=>?_⟩
 obtain⟨w1,S1,t,cW,bL,r1,_,q1⟩:=o8;split at q1
 ·split at q1
  ·exact .inl ⟨_,bZ r1,by assumption,q1 w1 H1 _ (.refl _) bL kI⟩
  ·exact q1.elim
 ·split at q1
  ·exact .inr ⟨_,aK r1,by assumption,q1 w1 H1 _ (.refl _) bL kI⟩
  ·exact q1.elim
 ·exact q1.elim
noncomputable def fJ:List Em->Str->Em
 |[],bO,_,S=>if bO.length<=sizeLine then .ok (.str bO) S else .ay
 |f::r,bO,τ,S=>(f τ S).az λt S1=>match t with|.str y=>if (bO++y).length<=sizeLine then fJ r (bO++y) τ S1 else .ay|_=>.ay
structure TVJ (G:Gx) (k:Nat) (X:Cx) (es:List Expr) (fs:List Em):Prop where
 ku:jF G k X->PJ X es (λbO=>fS G (fJ fs bO))
noncomputable instance {G:Gx}{k:Nat}{X:Cx}{es:List Expr}{fs:List Em}:CoeFun (TVJ G k X es fs) (λ_=>jF G k X->PJ X es (λbO=>fS G (fJ fs bO))):=⟨TVJ.ku⟩
theorem aao:TVJ G k X [] []:=.mk<|λ_ bO ah s σ H Q I ⟨w,S,τ,hr,sl,q⟩=>ZG bO ah s σ H Q I (by
 unfold fJ at q;split at q
 ·exact⟨by assumption,q w H _ (.refl w) hr kI⟩
 ·exact q.elim)
theorem R5 (h1:TV G k X e f)(h2:TVJ G k X es fs):TVJ G k X (e::es) (f::fs):=.mk<|λox bO ah s σ H Q I ⟨w,S,τ,hr,sl,q⟩=>Rf (h1 ox) (h2 ox) bO ah s σ H Q I ⟨w,S,τ,hr,sl,(bg.az q).mono λx H1 kL=>by
 obtain⟨w1,S1,t,cW,bL,r1,_,q1⟩:=kL;split at q1
 ·split at q1
  ·exact⟨_,bZ r1,by assumption,w1,S1,τ,bL,sl.mono cW,q1⟩
  ·exact q1.elim
 ·exact q1.elim⟩
theorem R6 (h:TVJ G k X (a::b::es) fs):TV G k X (.JoinedStr (a::b::es) pos) (fJ fs Str.empty):=.mk<|λox=>Rg (h ox)
end
structure oq (K:W.Frag) (mg:Str->Option Value) (x:Str) (st:Stmt) (ps:List Str) (f:Addr) (fd:FuncData):Prop where
 F:J_ K x x st f fd
 m:mg x=some (.ref f)
 b:eO K fd ps []
structure lG (K:W.Frag) (C:Addr) (x bX:Str) (st:Stmt) (ps:List Str) (f:Addr) (fd:FuncData):Prop where
 F:J_ K x bX st f fd
 M:dD K C x f
 b:eO K fd ps []
structure Vf (K:W.Frag) (mg:Str->Option Value) (x:Str) (C f:Addr):Prop where
 m:mg x=some (.ref C)
 c:vV K C
 k:Mk K C f
theorem alP {K:W.Frag}{st:Stmt}(F:J_ K x bX st f fd)(Sc:au N ps (ak st)):aO P w K mg base CX j f fd ps (dS K cl n λ_ _=>.ay):=
 ⟨λ_ _ _ _ nY=>by obtain⟨_,_,_,_,_,_,q⟩:=nY;exact q.elim,λ_ _ _ _ _ _ _ _ _ _ _ _ _ kO=>by obtain⟨_,_,_,_,_,_,q⟩:=kO;exact q.elim⟩
theorem aF:gB eS X E:=λ_ _ _ _ _ _ _ h=>h.elim
noncomputable def RS.seq (r:RS)(g:Sm):RS:=match r with|.nx e_ S1=>g e_ S1|r=>r
noncomputable def RS.fL (r:RS):R Tr:=match r with|.nx _ S'=>.ok .bw S' | .rt t S'=>.ok t S' | _=>.ay
theorem aap (f g:Sm)(τ:En)(S:Cs):ao f g τ S=(f τ S).seq g:=rfl
theorem Bq (N:List Str)(sb:Sm)(ts:List Tr)(S:Cs):dI N sb ts S=(sb (gE N ts) S).fL:=rfl
theorem R7 {α β:Type}{c:Prop}(a b:R α)(k:α -> Cs->R β):(wH c a b).az k=wH c (a.az k) (b.az k):=by unfold wH;split<;>rfl
theorem Mt {α:Type}{c:Prop}(a b:R α)(k:α -> Cs->RS):(wH c a b).bU k=wH c (a.bU k) (b.bU k):=by unfold wH;split<;>rfl
theorem R8 {c:Prop}(a b:RS)(g:Sm):(wH c a b).seq g=wH c (a.seq g) (b.seq g):=by unfold wH;split<;>rfl
theorem R9 {c:Prop}(a b:RS):(wH c a b).fL=wH c a.fL b.fL:=by unfold wH;split<;>rfl
theorem aaq (τ:En)(S:Cs)(g:Sm):(RS.nx τ S).seq g=g τ S:=rfl
theorem aar (t:Tr)(S:Cs)(g:Sm):(RS.rt t S).seq g = .rt t S:=rfl
theorem R_ (g:Sm):RS.ay.seq g = .ay:=rfl
theorem aas (τ:En)(S:Cs):(RS.nx τ S).fL = .ok .bw S:=rfl
theorem t7 (t:Tr)(S:Cs):(RS.rt t S).fL = .ok t S:=rfl
theorem Sa:RS.ay.fL = .ay:=rfl
theorem Mu (τ:En)(S:Cs)(g:Sm):lpS (.nx τ S) g=g τ S:=rfl
theorem agM (τ:En)(S:Cs)(g:Sm):lpS (.ct τ S) g=g τ S:=rfl
theorem agN (t:Tr)(S:Cs)(g:Sm):lpS (.rt t S) g = .rt t S:=rfl
theorem bJ {n:Nat}(h:n<=1000000):(n<=sizeLine)=True:=eq_true (zai h (by decide))
theorem kR {n:Nat}(h:n<1000000):(n<sizeLine)=True:=eq_true (zao h (by decide))
theorem ic {α:Type}(a:α)(S:Cs):jv (.ok a S) = .ok a S:=rfl
theorem aat {p:Prop}[Decidable p]:(decide p=true)=p:=propext decide_eq_true_iff
theorem agO {α:Type}(a b:α):(if True then a else b)=a:=if_pos trivial
theorem alQ {α:Type}(a b:α):(if False then a else b)=b:=if_neg id
theorem Mv {b:Tr->En->Cs->R En}{f:Sm}{τ:En}{S:Cs}:jL (λ_=>True) b f [] τ S = .nx τ S:=by unfold jL;rw[if_pos trivial]
theorem IT {b:Tr->En->Cs->R En}{f:Sm}{t:Tr}{r:List Tr}{τ:En}{S:Cs}:jL (λ_=>True) b f (t::r) τ S=(b t τ S).bU λe_ S1=>lpS (f e_ S1) (jL (λ_=>True) b f r):=by
 conv=>lhs;unfold jL
 rw[if_pos trivial]
theorem xK {b:Tr->En->Cs->R En}{c:En->Cs->R Bool}{f:Em}{τ:En}{bO:List Tr}{S:Cs}:cS (λ_=>True) b c f [] τ bO S = .ok bO S:=by unfold cS;rw[if_pos trivial]
theorem t8 {b:Tr->En->Cs->R En}{c:En->Cs->R Bool}{f:Em}{t:Tr}{r:List Tr}{τ:En}{bO:List Tr}{S:Cs}:cS (λ_=>True) b c f (t::r) τ bO S =
  (jv (b t τ S)).az λe_ S1=>(jv (c e_ S1)).az λx S2=>if x=true then (jv (f e_ S2)).az λu S3=>(if bO.length<sizeLine then cS (λ_=>True) b c f r e_ (bO++[u]) S3 else .ay) else cS (λ_=>True) b c f r e_ bO S2:=by
 conv=>lhs;unfold cS
 rw[if_pos trivial]
theorem qz {b:Tr->En->Cs->R En}{c:En->Cs->R Bool}{f:Em}{S:Cs}(τ0:En)(P:En->Prop)(g:Tr->Tr)(keep:Tr->Bool)
  : ∀(l:List Tr) (τ:En) (bO:List Tr),P τ -> (∀t∈l,∀ τ,P τ -> ∃e_,P e_/\b t τ S = .ok e_ S/\c e_ S = .ok (keep t) S/\(keep t=true->f e_ S = .ok (g t) S))->bO.length+l.length<=1000000 ->
   cS (λ_=>True) b c f l τ bO S = .ok (bO++(l.filter keep).map g) S
 |[],τ,bO,hτ,h,hl=>by rw[xK];simp
 |t::r,τ,bO,hτ,h,hl=>by
  obtain⟨e_,p1,e1,e2,e3⟩:=h t (by simp) τ hτ
  rw[t8,e1,ic,R.dX,e2,ic,R.dX];have Ig:bO.length+1+r.length<=1000000:=by simp at hl;omega
  cases hk:keep t with
  |true =>
   rw[if_pos rfl,e3 hk,ic,R.dX,if_pos (zao (by omega:bO.length<1000000) (by decide)),qz τ0 P g keep r e_ _ p1 (λu hu=>h u (by simp[hu])) (by simp;omega)]
   simp[zcn,hk]
  |false =>
   rw[if_neg zag,qz τ0 P g keep r e_ _ p1 (λu hu=>h u (by simp[hu])) (by omega)]
   simp[zcn,hk]
theorem zF {α:Type}(l:List α)(a b:α):(l++[a]).set l.length b=l++[b]:=by
 induction l with
 |nil=>rfl
 |cons x r ih=>simp only[zbP,zav,zdF,ih]
theorem ie {α:Type}(l:List α)(a:α):(l++[a])[l.length]? = some a:=by simp
theorem IU (S:Cs)(l:List Tr):cO (S++[.aV l]) S.length=some l:=by unfold cO;rw[ie]
theorem xM (S:Cs)(l:List (dz×Tr)):mH (S++[.gQ l]) S.length=some l:=by unfold mH;rw[ie]
open Classical in
theorem pD {q:Fn}{ts:List Tr}{S S1:Cs}{t u:Tr}(h:q ts S = .ok t S1)(h1:S1.take S.length=S)(h2:Bp S.length S1 t=some u):qU q ts S = .ok u S:=by
 unfold qU;rw[h];show (if S1.take S.length=S then _ else _)=_
 rw[if_pos h1,h2]
theorem pF (m:Nat):∀l:List Tr,Tr.jN m l=l.all (Tr.az m)
 |[]=>by unfold Tr.jN;rfl
 |t::l=>by unfold Tr.jN;rw[pF m l];rfl
theorem pG:∀l:List Tr,Tr.o_ l=l.all Tr.qu
 |[]=>by unfold Tr.o_;rfl
 |t::l=>by unfold Tr.o_;rw[pG l];rfl
theorem zG {m:Nat}{i:Int}:Tr.az m (.int i)=true:=by unfold Tr.az;rfl
theorem Gj {m:Nat}{i:Str}:Tr.az m (.str i)=true:=by unfold Tr.az;rfl
theorem aau {m:Nat}{i:Bool}:Tr.az m (.bl i)=true:=by unfold Tr.az;rfl
theorem Sb {m:Nat}:Tr.az m .bw=true:=by unfold Tr.az;rfl
theorem Mw {m:Nat}{l:List Tr}:Tr.az m (.tp l)=l.all (Tr.az m):=by unfold Tr.az;exact pF m l
theorem aav {m:Nat}{l:List Tr}:Tr.az m (.ls l)=l.all (Tr.az m):=by unfold Tr.az;exact pF m l
noncomputable def Gk (K:W.Frag):Sp:=λvs H Q _=>∃(a:Addr) (ns:List Int),vs=[.ref a]/\i6 K H a (ns.map V.int)/\ns.length<=63/\∀H',Q (.bl true) H'
theorem aaw {P:Program}{w:World}{K:W.Frag}{mg:Str->Option Value}{base:Heap}{CX:CW}{j:Nat}{f:Addr}{fd:FuncData}{ps:List Str}{cl:Str->Addr}{q:Fn}(F:aO P w K mg base CX j f fd ps (dS K cl 1 q))
  (h:∀ns:List Int,ns.length<=63->∃S,q [.kl (ns.map Tr.int)] [] = .ok (.bl true) S):aO P w K mg base CX j f fd ps (Gk K):=F.imp λvs H Q E b9=>by
 obtain⟨a,ns,ev,hS,hl,k⟩:=b9;subst ev;obtain⟨S,e⟩:=h ns hl;refine⟨⟨K,0,λ_=>0,H,λ_=>none⟩,[],[.kl (ns.map Tr.int)],⟨rfl,rfl,?_,λi c e=>(by simp at e),λi j ⟨c,e,_⟩=>(by simp at e),λb o e=>(by cases e),λi ⟨c,e,_⟩=>(by simp at e),λb xs e=>(by cases e)⟩,.cons ?_ .nil,rfl,?_⟩
 ·funext b
  unfold Fz;rw[if_neg];rintro (⟨i,⟨c,e,_⟩,_⟩|z)
  ·simp at e
  ·exact z rfl
 ·unfold RT
  exact⟨a,_,rfl,hS,bF.ints ns⟩
 ·rw[e]
  intro w' H' v _ _ rv;rw[j6 rv];exact k H'
noncomputable def alR (t:Tr)(x:R Tr)(S:Cs):R Tr:=match t with|.bl true=>x|.bl false=>.ok (.bl false) S|_=>.ay
noncomputable def orV (t:Tr)(x:R Tr)(S:Cs):R Tr:=match t with|.bl true=>.ok (.bl true) S|.bl false=>x|_=>.ay
theorem IV {p:Prop}[Decidable p]{a b:Bool}{S:Cs}:(if p then R.ok (Tr.bl a) S else R.ok (Tr.bl b) S)=R.ok (Tr.bl (if p then a else b)) S:=by split<;>rfl
theorem Gm {α:Type}{l:List α}{n:Int}{m:Int}(hm:m=l.length)(h0:0<m):∃t,t∈l/\iS l (n % m)=some t:=by
 have h1:=zcy n (by omega:m≠0)
 have h2:=zbU n h0;obtain⟨j,hj⟩:=zbf h1;have Gn:j<l.length:=by omega
 exact⟨l[j],zbA Gn,by rw[hj];exact eZ (zac Gn)⟩
theorem t9 {lo:Int}{n i:Nat}{t:Tr}(h:(rL lo n)[i]? = some t):i<n/\t = .int (lo+i):=by
 unfold rL at h;rw[zar] at h;have jR:i<n:=by
  cases ec:(List.range n)[i]? with
  |none=>rw[ec] at h;cases h
  |some c=>simpa using (zae.mp ec).1
 rw[zdt jR] at h;cases h;exact⟨jR,rfl⟩
theorem mQ {lo:Int}{n:Nat}:(rL lo n).length=n:=by simp[rL]
end L2
namespace L2
theorem ou {c:En->Cs->R Bool}{f:Sm}(I:Nat->En->Cs->Prop)(J:En->Cs->Prop)(qc:∀m τ S,I m τ S->(c τ S = .ok false S/\J τ S)\/(0<m/\c τ S = .ok true S/\∃iU S2,f τ S = .nx iU S2/\I (m - 1) iU S2)):
  ∀(n m:Nat) (τ:En) (S:Cs),m<n->I m τ S->∃lQ S',J lQ S'/\mP c f n τ S = .nx lQ S'
 |0,m,τ,S,h,_=>absurd h (Nat.not_lt_zero m)
 |n+1,m,τ,S,h,hI=>by
  unfold mP;rcases qc m τ S hI with⟨e,hJ⟩|⟨hm,e,iU,S2,e2,h2⟩
  ·exact⟨τ,S,hJ,by rw[e,R.fN,if_neg zag]⟩
  ·obtain⟨lQ,S',hJ,e3⟩:=ou I J qc n (m - 1) iU S2 (by omega) h2
   exact⟨lQ,S',hJ,by rw[e,R.fN,if_pos rfl,e2,Mu,e3]⟩
end L2
namespace L2
open PySem PySem.Spec PyProof.Rows
theorem Eh {c:En->Cs->R Bool}{f:Sm}{n:Nat}{τ:En}{S:Cs}{Z:RS}(e:mP c f n τ S=Z)(I:Nat->En->Cs->Prop)(J:En->Cs->Prop)(m:Nat)(hm:m<n)(h0:I m τ S)
  (qc:∀m τ S,I m τ S->(c τ S = .ok false S/\J τ S)\/(0<m/\c τ S = .ok true S/\∃iU S2,f τ S = .nx iU S2/\I (m - 1) iU S2)):∃lQ S',J lQ S'/\Z = .nx lQ S':=by
 obtain⟨lQ,S',h,e2⟩:=ou I J qc n m τ S hm h0;exact⟨lQ,S',h,by rw[<-e,e2]⟩
theorem zH:nL "int" "bool"=some false:=by decide +kernel
theorem Br:nL "int" "int"=some true:=by decide +kernel
theorem Bt:nL "int" "str"=some false:=by decide +kernel
theorem wN:nL "int" "tuple"=some false:=by decide +kernel
theorem zJ:nL "int" "list"=some false:=by decide +kernel
theorem Bu:nL "str" "str"=some true:=by decide +kernel
theorem wO:nL "str" "tuple"=some false:=by decide +kernel
theorem zK:nL "str" "list"=some false:=by decide +kernel
theorem rO:nL "tuple" "tuple"=some true:=by decide +kernel
theorem t_:nL "tuple" "list"=some false:=by decide +kernel
theorem ua:nL "list" "tuple"=some false:=by decide +kernel
theorem wQ:nL "list" "list"=some true:=by decide +kernel
end L2
namespace L2
open PySem PySem.Spec PyProof.Rows
theorem uc:∀{l m:List Char},l.map Char.toNat=m.map Char.toNat->l=m
 |[],[],_=>rfl
 |[],_::_,h=>by simp at h
 |_::_,[],h=>by simp at h
 |a::l,b::m,h=>by
  simp only[zau,List.cons.injEq] at h;rw[uc h.2,Char.ext (UInt32.toNat_inj.mp h.1)]
theorem Sd {a b:String}:(Str.ofString a=Str.ofString b)=(a=b):=by
 apply propext
 constructor
 ·intro h
  rw[Str.ofString_eq_byList] at h;unfold Str.ofStringByList at h;simp only[Str.mk.injEq] at h;have h2:a.toList.map Char.toNat=b.toList.map Char.toNat:=by simpa using h
  exact String.toList_inj.mp (uc h2)
 ·rintro rfl;rfl
theorem ud {iH:Cs->Prop}{b:Tr->En->Cs->R En}{c:En->Cs->R Bool}{f:Em}{τ:En}{bO:List Tr}{S:Cs}(h:iH S):cS iH b c f [] τ bO S = .ok bO S:=by unfold cS;rw[if_pos h]
theorem qV {iH:Cs->Prop}{b:Tr->En->Cs->R En}{c:En->Cs->R Bool}{f:Em}{t:Tr}{r:List Tr}{τ:En}{bO:List Tr}{S:Cs}(h:iH S):cS iH b c f (t::r) τ bO S =
  (jv (b t τ S)).az λe_ S1=>(jv (c e_ S1)).az λx S2=>if x=true then (jv (f e_ S2)).az λu S3=>(if bO.length<sizeLine then cS iH b c f r e_ (bO++[u]) S3 else .ay) else cS iH b c f r e_ bO S2:=by
 conv=>lhs;unfold cS
 rw[if_pos h]
theorem jh {α:Type}{iH:Cs->Prop}{b:Tr->En->Cs->R En}{c:En->Cs->R Bool}{f:Em}{S:Cs}(hS:iH S)(P:En->Prop)(k:α -> Tr)(g:α -> Tr)(keep:α -> Bool)
  : ∀(l:List α) (τ:En) (bO:List Tr),P τ -> (∀a∈l,∀ τ,P τ -> ∃e_,P e_/\b (k a) τ S = .ok e_ S/\c e_ S = .ok (keep a) S/\(keep a=true->f e_ S = .ok (g a) S))->bO.length+l.length<=1000000 ->
   cS iH b c f (l.map k) τ bO S = .ok (bO++(l.filter keep).map g) S
 |[],τ,bO,hτ,h,hl=>by rw[zaI,ud hS];simp
 |t::r,τ,bO,hτ,h,hl=>by
  obtain⟨e_,p1,e1,e2,e3⟩:=h t (by simp) τ hτ
  rw[zau,qV hS,e1,ic,R.dX,e2,ic,R.dX];have Ig:bO.length+1+r.length<=1000000:=by simp at hl;omega
  cases hk:keep t with
  |true =>
   rw[if_pos rfl,e3 hk,ic,R.dX,if_pos (zao (by omega:bO.length<1000000) (by decide)),jh hS P k g keep r e_ _ p1 (λu hu=>h u (by simp[hu])) (by simp;omega)]
   simp[zcn,hk]
  |false =>
   rw[if_neg zag,jh hS P k g keep r e_ _ p1 (λu hu=>h u (by simp[hu])) (by omega)]
   simp[zcn,hk]
theorem Ei {α β γ:Type}(f:α -> Bool)(g:α -> γ):∀{l:List α} {l':List β},l'.length=l.length->((l.zip l').filter λp=>f p.1).map (λp=>g p.1)=(l.filter f).map g
 |[],_,_=>by simp
 |a::l,[],h=>by simp at h
 |a::l,b::l',h=>by
  have h':l'.length=l.length:=by simpa using h
  rw[zbV,zcn,zcn];cases f a
  ·simp only[zbp,if_false];exact Ei f g h'
  ·simp only[if_true,zau];rw[Ei f g h']
theorem Gp {α β γ:Type}(g:β -> γ):∀{l:List α} {l':List β},l'.length=l.length->(l.zip l').map (λp=>g p.2)=l'.map g
 |[],[],_=>rfl
 |[],_::_,h=>by simp at h
 |a::l,[],h=>by simp at h
 |a::l,b::l',h=>by
  have h':l'.length=l.length:=by simpa using h
  rw[zbV,zau,zau,Gp g h']
theorem Mx {α β:Type}:∀{l:List α} {l':List β} {p:α × β},p∈l.zip l'->∃j:Nat,l[j]? = some p.1/\l'[j]? = some p.2
 |[],_,p,h=>by simp at h
 |_::_,[],p,h=>by simp at h
 |a::l,b::l',p,h=>by
  rw[zbV] at h;rcases zap.mp h with rfl|h
  ·exact⟨0,rfl,rfl⟩
  ·obtain⟨j,h1,h2⟩:=Mx h
   exact⟨j+1,by simpa using h1,by simpa using h2⟩
theorem HR.ext (h:HR G w S H)(k:∀b o,H b=some o->H' b=some o):HR G {w with F:=Fz w.ρ w.hid S H' } S H'/\w.le {w with F:=Fz w.ρ w.hid S H' }:=by
 have hF:∀b o,w.F b=some o->Fz w.ρ w.hid S H' b=some o:=λb o e=>by
  rw[h.F] at e;unfold Fz at e ⊢
  split at e
  ·cases e
  ·rename_i hn
   rw[if_neg hn];exact k b o e
 have le:w.le {w with F:=Fz w.ρ w.hid S H' }:=⟨rfl,zah _,λ_ _=>rfl,hF,rfl⟩
 exact⟨⟨h.K,h.n,rfl,λi c e=>(h.cell i c e).mono le λu eu=>k _ _ eu,h.inj,λb o e=>k b o (h.hid b o e),h.jZ,h.hl⟩,le⟩
section
variable {P:Program}{qA:World}{K:W.Frag}{mg:Str->Option Value}{base:Heap}{N:List Str}{bX:Str}{scope:Scope}{f:Addr}{fC:Value}{A:Around}{outer:List Env}{s₀:Shared}{H₀:Hp}{E:XK}{cl:Str->Addr}{k:Nat}
noncomputable def Vg (C:Addr)(n:Nat)(g:List V->List (Str×V)):Sp:=λvs H Q _=>∃(a:Addr) (xs:List V),vs = .ref a::xs/\xs.length=n/\H a=some (EO a C none) /\
 ∀(d:Addr) (H':Hp),H d=none->H' a=some (EO a C (some d))->H' d=some (ED d (g xs))->(∀b o,H b=some o->b≠a->H' b=some o)->Q .bw H'
theorem HR.aax (h:HR G w S H)(hx:H x=none)(hd:H d=none)(dx:d≠x)(h2x:H2 x=some (EO x (G.cl c) (some d)))(h2d:H2 d=some (ED d wG))
  (kp:∀b o,H b=some o->H2 b=some o) (hT:H2 T=none) (Tx:T≠x) (r:RK w fs wG):∃w',w.le w'/\w'.ρ S.length=x/\HR G w' (S++[.wD c fs]) (br (br H2 x (tD x (G.cl c) (some d) T)) T (TB T)):=by
 have h3:∀b o,H b=some o->(λb=>if b=x then none else H2 b) b=some o:=λb o e=>by
  show (if b=x then none else H2 b)=some o
  rw[if_neg λz=>by subst z;rw[hx] at e;cases e]
  exact kp b o e
 obtain⟨dG,eW⟩:=h.ext (H':=λb=>if b=x then none else H2 b) h3
 have ZL:(λb=>if b=x then none else H2 b) T=none:=by
  show (if T=x then none else H2 T)=none
  rw[if_neg Tx,hT]
 obtain⟨mG,i7⟩:=dG.ZT ZL (TB T)
 have dT:d≠T:=λz=>by rw[z,hT] at h2d;cases h2d
 have hp:br (λb=>if b=x then none else H2 b) T (TB T) x=none:=by
  rw[aq Tx.symm];show (if x=x then none else H2 x)=none
  rw[if_pos rfl]
 have hH:br (br (λb=>if b=x then none else H2 b) T (TB T)) x (tD x (G.cl c) (some d) T)=br (br H2 x (tD x (G.cl c) (some d) T)) T (TB T):=by
  funext b
  by_cases b1:b=x
  ·subst b1
   rw[av,aq Tx.symm,av]
  ·rw[aq b1]
   by_cases b2:b=T
   ·subst b2
    rw[av,av]
   ·rw[aq b2,aq b2,aq b1]
    show (if b=x then none else H2 b)=_
    rw[if_neg b1]
 have LY:=Wd.tG { {w with F:=Fz w.ρ w.hid S λb=>if b=x then none else H2 b} with F:=br (Fz w.ρ w.hid S λb=>if b=x then none else H2 b) T (TB T)} x
 obtain⟨Ke,_⟩:=mG.II hp (o:=tD x (G.cl c) (some d) T) (c:=.wD c fs) rfl (by
  refine⟨T,d,wG,av,av,?_,Tx,dx,r.mono (eW.trans (i7.trans LY))⟩
  show br (Fz w.ρ w.hid S λb=>if b=x then none else H2 b) T (TB T) d=_
  rw[aq dT];unfold Fz;rw[if_neg (h.free hd)];show (if d=x then none else H2 d)=_
  rw[if_neg dx,h2d])
 rw[hH] at Ke;refine⟨_,eW.trans (i7.trans LY),?_,Ke⟩
 show (if S.length=w.n then x else w.ρ S.length)=x
 rw[if_pos h.n.symm]
noncomputable def zL (c:Str)(n:Nat)(gT:List Tr->List (Str×Tr))(Gq:List Tr)(fr:En->Cs->R (List Tr)):Sm:=λτ S=>(fr τ S).bU λts S1=>if ts.length+Gq.length=n/\n<=1000 then .ex S1.length (S1++[.wD c (gT (ts++Gq))]) else .ay
theorem Mz 
  (M:rX K (cl c) fi bm) (F:aO P qA K mg base eS j fi fd ps (Vg (cl c) n g)) (hj:j+1<=k) (hm:mg x=some (.ref (cl c))) (hb:eO K fd ps ds) (hd:bz m_ ds) (hdt:∀w,bF w Gq m_) (hg:∀w ts vs,bF w ts vs->ts.length=n->RK w (gT ts) (g vs))
  (ha:wI ⟨K,cl,E⟩ k (jw (wC P qA) P qA K mg base N bX scope f fC A outer s₀ H₀ E) (e::es) fr)
  (hgl:Gl (jw (wC P qA) P qA K mg base N bX scope f fC A outer s₀ H₀ E) x:=by rfl) (sP:(x == ("__debug__" : Str))=false:=by decide) (hs:dN e=false:=by rfl) (Il:dh es=true:=by rfl) (C8:0<k:=by first|decide|omega):
  wJ ⟨K,cl,E⟩ k (jw (wC P qA) P qA K mg base N bX scope f fC A outer s₀ H₀ E) (.Raise (some (.Call (.Name x p) (e::es) [] gx)) none pos) (zL c n gT Gq fr):=.mk<|λox =>
 (LI (Zw (X:=jw (wC P qA) P qA K mg base N bX scope f fC A outer s₀ H₀ E) (E:=E0) M F ((ox.room C8).mono hj) hgl hm hb hd (λ_ _ _ _ _ _ _ h=>h.elim) (ha ox) sP (di hs) (fX Il))).wk λD σ H h=>by
  obtain⟨w,S,τ,hr,sl,q⟩:=h;refine⟨w,S,τ,hr,sl,(bV.az q).mono λvs H1 b9=>?_⟩
  obtain⟨w1,S1,ts,cW,bL,r1,_,q1⟩:=b9;split at q1
  ·rename_i hn
   have hl:vs.length<=1000:=by rw[r1.len];omega
   refine⟨hl,λx' PY=>⟨x',vs++m_,rfl,?_,av,λd H' UI e1 e2 kp=>⟨rfl,x',cl c,fi,bm,some d,rfl,e1,M,λT hT Tx=>?_⟩⟩⟩
   ·rw[zak,r1.len,(hdt w1).len];exact hn.1
   ·have dx:d≠x':=λz=>by rw[z,av] at UI;cases UI
    have hd2:H1 d=none:=by rw[aq dx] at UI;exact UI
    obtain⟨w',le',ρx,wM⟩:=bL.aax (c:=c) (fs:=gT (ts++Gq)) (wG:=g (vs++m_)) PY hd2 dx e1 e2 (λb o eb=>kp b o (by rw[aq λz=>by rw[z,PY] at eb;cases eb];exact eb) λz=>by rw[z,PY] at eb;cases eb) hT Tx (hg w1 _ _ (r1.rJ (hdt w1)) (by rw[zak];exact hn.1))
    obtain⟨c',J7,ec,kk⟩:=q1;have ec2:c'=c:=by
     simp only[ie] at ec;cases ec;rfl
    subst ec2
    have:=kk w' _ le' wM
    rw[ρx] at this;exact this
  ·exact q1.elim
noncomputable def fnX (N:List Str)(sb:Sm):Fn:=λts S=>match sb (gE N ts) S with|.nx _ S'=>.ok .bw S' | .rt t S'=>.ok t S' | .ex n S'=>.ex n S' | _=>.ay
theorem aay {st:Stmt}(F:J_ K x bX st f fd)(Sc:au N ps (ak st))
  (hb:∀fC A outer s H E,F6 ⟨K,cl,E⟩ k (jw (wC P qA) P qA K mg base N bX (ak st) f fC A outer s H E) (cR st) sb):aO P qA K mg base (wC P qA) (k+1) f fd ps (dS K cl ps.length (fnX N sb)):=by
 refine F.okX Sc (λvs H Q E cZ=>by obtain⟨w,S,ts,hr,r,hn,_⟩:=cZ;rw[r.len,hn]) λfC A outer s H vs Q E hr dF=>?_
 obtain⟨w,S,ts,P7,r,hn,q⟩:=dF;refine⟨_,hb fC A outer s H E ⟨rfl,λ_=>rfl,λ_=>hr,zbT (Nat.add_le_add_right (zaZ _ _) 200) hr.un⟩,w,S,gE N ts,P7,Sl.cV N r,?_⟩
 unfold fnX at q;cases e:sb (gE N ts) S with
 |nx lQ S'=>rw[e] at q;exact λw' H' dP le wM sl'=>q w' H' _ le wM qo
 |rt t S'=>rw[e] at q;exact λw' H' v le wM rv=>q w' H' v le wM rv
 |bk lQ S'=>rw[e] at q;exact q.elim
 |ct lQ S'=>rw[e] at q;exact q.elim
 |ex lQ S'=>rw[e] at q;exact q
 |ay=>rw[e] at q;exact q.elim
end
theorem zM (hC:s.heap.get? C=some (excClassObj nm q C N bs bm wA sn sub ab sY dd k0 k1 k2 k3 k5 o6))(hB:s.heap.get? B=some (excClassObj U0 q' B N' U1 Ka qR U3 A1 U4 A2 CY j0 j1 j2 j3 j5 mD))
  (he:s.heap.get? a=some oe) (Yq:oe.cls = .ref C) (hb:Ka.contains (.type "BaseException")=true) (h2:(Value.ref C::bm).contains (.ref B)=true) (hq:Q true s):wpAny M A (excMatches (.ref a) (.ref B)) Q E s:=by
 have h1:(Value.ref B::Ka).contains (.type "BaseException")=true:=by rw[zbC,hb,zcQ]
 have f:=tc_notTuple;obtain⟨hp,g,d,tk,os⟩:=s;unfold excMatches;repeat (first | (with_reducible refine zbK he ?_;rw[Yq])|with_reducible refine zbK hB ?_ | (with_reducible refine zcI hB ?_;rw[h1]) | (with_reducible refine zcI hC ?_;rw[h2])|wp_step)
 exact hq
noncomputable def aaz (K:W.Frag)(B:Addr)(kk:Addr->Hp->Prop):XK:=λcls oa H2=>∃(a C f:Addr) (bm:List Value) (od:Option Addr) (T:Addr),oa=some a/\cls = .ref C/\rX K C f bm/\(Value.ref C::bm).contains (.ref B)=true /\
 H2 a=some (tD a C od T)/\H2 T=some (TB T)/\T≠a/\∀T',H2 T'=none->T'≠a->kk a (br (br H2 a (tD a C od T')) T' (TB T'))
noncomputable def aaA (K:W.Frag)(C:Addr)(m:Str)(B:Addr)(sp:Sp)(ta:TE)(t:TA)(ts:TS):TS:=λD σ H=>FL C m sp [] (aaz K B λ_ H'=>ts D σ H') ta t σ H λ_ H3=>D.nx σ H3
section
variable {X:Cx}{k:Nat}{g B C:Addr}{fd:FuncData}{ps:List Str}{sp:Sp}{e o:Expr}{es:List Expr}{ta:TE}{t:TA}{n m cB:Str}{l:Nat}{p cp ap np ep hp pos:Pos}{lH:List Stmt}{rP:Stmt}{ts:TS}
 {U0 q':Str} {N':Addr} {U1 Ka:List Value} {qR:Bool} {U3:List Str} {A1:List Value} {U4:Bool} {A2:Option Bool} {CY:Option Addr} {j0 j1 j2 j3 j5:Option Value} {mD:String}
theorem IW {D:AF}(Vh:X.fM=true)(zN:X.cY=X.env::X.outer)(C3:X.env.frame=some X.env.locals)(hgB:Gl X cB)(hmB:X.mg cB=some (.ref B))
  (hB:X.K.lookup B=some (excClassObj U0 q' B N' U1 Ka qR U3 A1 U4 A2 CY j0 j1 j2 j3 j5 mD)) (hbB:Ka.contains (.type "BaseException")=true) (Se:(cB == ("__debug__" : Str))=false)
  (I1:aI X ah σ H1 s1) (hq:wC X.prog X.w X.cY H1 s1 (aaz X.K B kk) ev s')
  (hs:∀a C od T' s4 H4,ev = .ref a->H4 a=some (tD a C od T')->H4 T'=some (TB T')->aI (X.mz a) ah σ H4 s4->kk a H4->codeAny (model X.prog X.w) (X.A.mark (some (.ref a))) (.handlers (.ref a) [.ExceptHandler none name (rP::lH) hp] X.env) (λr lW=>match r with
     |.ok f=>(match name with
      |none=>SP X ah D f lW
      |some n=>wpAny (model X.prog X.w) X.A (do bindName X.env n .none;unbindBehindTheSuite X.env n hp) (λ_ wj=>SP X ah D f wj) X.xe lW)
     |.error x=>cameBackBy (model X.prog X.w) X.A X.env X.xe x lW) s4):
  wpAny (model X.prog X.w) X.A (noteFrame ev X.env) (λ_ lW=>wpAny (model X.prog X.w) X.A (setFlight ev none) (λ_ wj=>wpAny (model X.prog X.w) X.A (handleBy ev X.env [.ExceptHandler (some (.Name cB np)) name (rP::lH) hp]) (SP X ah D) X.xe wj) X.xe lW) X.xe s':=by
 obtain⟨a,_,_,_,H2,rfl,J9,agR,un,cg,_,_,_,a9,C,f,bm,od,T,ea,ec,Mk,Ay,P1,hT2,Ta,kq⟩:=hq;cases ea;have I2:aI X ah σ H2 s':=I1.FD (ch:=[]) J9 un cg agR (λb z=>absurd z (by simp))
 obtain⟨t0,ga⟩:=(show ∃t,s'.heap.get? a=some (lD C od t (.ref T)) from (I2.cg a _ P1).1)
 have gT:wB s'.heap T:=(I2.cg T _ hT2).1
 have lN:s'.heap.FunFrames X.base (X.env::X.outer):=by rw[<-zN];exact I2.AK.lN
 have frames:X.A.frames=some (X.env::X.outer):=by rw[<-zN];exact I2.ok.frames
 refine Iw (base:=X.base) frames lN C3 ga gT Ta λh1 h' T' k1 tb1 z1 Lf=>?_
 have Ta':T'≠a:=zbS (zao (zam ga) (by rw[<-z1];exact Lf.new))
 have nT':H2 T'=none:=I2.cg.fresh (by rw[<-z1];exact Lf.new)
 have I3:aI X ah σ (br (br H2 a (tD a C od T')) T' (TB T')) {s' with heap:=h' }:=I2.LJ P1 hT2 Ta Ta' k1 tb1 z1 (by rw[zN];exact Lf)
 have I3m:=I3.mz a;refine wpAny_handleBy_cons (codeAny_handlers_test (mZ I3m hgB hmB ?_ Se)) (by intro q;cases q)
 obtain⟨nm,qn,N0,bs,sn,sub,ab,sY,dd,k0,k1',k2,k3,k5,lk⟩:=Mk.lC;refine zM (I3.kj _ _ lk) (I3.kj _ _ hB) Lf.lC rfl hbB Ay ?_
 exact hs a C od T' _ _ rfl (by rw[aq Ta'.symm,av]) av I3m (kq T' nT' Ta')
theorem Ej (I:aI X ah σ H s)(ha:H a=some (tD a C od T))(hT:H T=some (TB T))
  (h:∀s',aI X ah σ H s'->Q () s'):wpAny M A (setFlight (.ref a) none) Q E s:=by
 obtain⟨t0,e1⟩:=(show ∃t,s.heap.get? a=some (lD C od t (.ref T)) from (I.cg a _ ha).1)
 obtain⟨oT,ts,eT,dT,h3⟩:=(show wB s.heap T from (I.cg T _ hT).1)
 unfold setFlight;refine zaa (zax e1 rfl (x:=.ref T) rfl ?_)
 rw[if_pos (show (Value.ref T != Value.none)=true from by simp)]
 have sz:=(zdH.mp h3).1
 refine zbO eT dT sz ?_
 have fT:(s.heap.update T (Obj.mapFields (·.setIfInBounds 3 ((none:Option Addr).elim Value.none λf=>rawInt f)))).get? T=some (Obj.mapFields (·.setIfInBounds 3 ((none:Option Addr).elim Value.none λf=>rawInt f)) oT):=zaU _ eT (zcD (zbq dT _))
 have tb4:wB (s.heap.update T (Obj.mapFields (·.setIfInBounds 3 ((none:Option Addr).elim Value.none λf=>rawInt f)))) T:=⟨_,_,fT,zbq dT _,by simp[sz]⟩
 have I4:=I.jy (x:=T) (e:=T) (o:=TB T) (t':=s.toks) (h':=s.heap.update T (Obj.mapFields (·.setIfInBounds 3 ((none:Option Addr).elim Value.none λf=>rawInt f))))
  (by rw[hT];exact True.intro) (.inl rfl) (λb u nb hb=>(zaz _ _ (zbj nb)).trans hb) ⟨_,fT⟩ (F2 tb4)
 rw[AW hT] at I4;exact h _ I4
theorem MA (Vh:X.fM=true)(zN:X.cY=X.env::X.outer)(C3:X.env.frame=some X.env.locals)(hgB:Gl X cB)(hmB:X.mg cB=some (.ref B))
  (hB:X.K.lookup B=some (excClassObj U0 q' B N' U1 Ka qR U3 A1 U4 A2 CY j0 j1 j2 j3 j5 mD)) (hbB:Ka.contains (.type "BaseException")=true)
  (he:PE X.CV o ta) (c:vV X.K C) (hm:dD X.K C m g) (F:aO X.prog X.w X.K X.mg X.base (wC X.prog X.w) k g fd ps sp) (hr:gP k X.A) (hb:eO X.K fd ps []) (ha:PA X.CV (e::es) t)
  (hs:∀a,wg (X.mz a).CV (rP::lH) ts)
  (Se:(cB == ("__debug__" : Str))=false:=by decide) (Rm:swapsWith (.Call (.Attribute o m ap) (e::es) [] cp) none ep.line X.env=pure false:=by rfl)
  (qa:starEach (e::es) X.env=(false,eval e X.env)::starEach es X.env:=by rfl) (hpl:(backTo cp (starEach es X.env)).any (·.1)=false:=by rfl)
  (ht:eval (.Call (.Attribute o m ap) (e::es) [] cp) X.env=(do
   let ov <-eval o X.env
   standAt ap.atName
   let (f,first) <-holding [ov] (getMethod ov m pl)
   callWith cp f first (backTo cp (starEach (e::es) X.env)) (backToKw cp (keywordEach [] X.env))):=by rfl):
  PS X (.Try [.Expr (.Call (.Attribute o m ap) (e::es) [] cp) ep] [.ExceptHandler (some (.Name cB np)) none (rP::lH) hp] [] [] pos) (aaA X.K C m B sp ta t ts):=by
 intro ah s σ H D I h;have hhd:X.fM=true->X.A.handled=none:=I.ok.hd
 refine wpAny_Try_except (zdS (wpAny_Expr_any ?_ I.quiet Rm))
 refine W.methodCall_KW (pl:=pl) (zaQ (he ah s σ H _ (I.rD _) h) (λu s1 dF=>?_) λ_ _ z=>z.elim) ht
 obtain⟨x,H1,I1',rx,a,dx,fs,ex,ea,lk,q⟩:=dF;have I1:aI X ah σ H1 s1:=I1'.gf
 subst ex;obtain rfl:u=Value.ref a:=rx
 refine nV I1 ea c hm lk ?_
 refine W.callWith_K (first:=[.ref a]) (h₀:= X.base) I.ok.sG.Yn hm.kp (zaQ (ha cp ah s1 σ H1 _ I1' q) (λus s2 ⟨vs,H2,I2',r,q2⟩=>⟨I2'.gf.kj,?_⟩) λ_ _ z=>z.elim) qa hpl
 have I2:aI X ah σ H2 s2:=I2'.gf
 have r2:bz (V.ref a::vs) (Value.ref a::us):=.cons rfl r
 have q2:sp (V.ref a::(vs++[])) H2 _ _:=q2
 rw[zaw] at q2;have cJ:(Value.ref a::us).length=ps.length:=by rw[<-r2.length];exact F.len _ _ _ _ q2
 have az:=hb s2 (Value.ref a::us) I2.kj (by rw[zaw];exact cJ)
 rw[zaw] at az;refine zdi (zcM (F.ku X.A X.cY s2 H2 ⟨Value.ref a::us,[]⟩ (Value.ref a::us) (V.ref a::vs) _ _ hr I2.AK az r2 q2) λrr s' hq=>?_)
 cases rr with
 |ok fl =>
  cases fl with
  |ret u =>
   obtain⟨v,H3,I3,rv,q3⟩:=I2.after hq;exact zct (zct ⟨σ,H3,I3,q3⟩)
  |next=>exact False.elim hq
  |brk=>exact False.elim hq
  |cont=>exact False.elim hq
 |error ev =>
  refine IW Vh zN C3 hgB hmB hB hbB Se I2 hq λa C od T' s4 H4 _ ha4 hT4 I4 kq=>?_
  refine codeAny_handlers_suite (Ej I4 ha4 hT4 λs5 I5=>?_)
  refine zaQ (hs a ah s5 σ H4 _ (I5.rD _) kq) (λfl s7 h7=>?_) λ_ _ z=>z.elim
  cases fl with
  |next=>obtain⟨dP,H',I7,q7⟩:=h7;exact⟨_,_,I7.gf.o7 hhd,q7⟩
  |brk=>obtain⟨dP,H',I7,q7⟩:=h7;exact⟨_,_,I7.gf.o7 hhd,q7⟩
  |cont=>obtain⟨dP,H',I7,q7⟩:=h7;exact⟨_,_,I7.gf.o7 hhd,q7⟩
  |ret u=>obtain⟨v,dP,H',I7,r7,q7⟩:=h7;exact⟨v,_,_,I7.gf.o7 hhd,r7,q7⟩
end
noncomputable def Bv (S:Cs)(n:Nat):Option (Str×List (Str×Tr)):=match S[n]? with|some (.wD c fs)=>some (c,fs)|_=>none
theorem ow (h:Bv S n=some (c,fs)):S[n]? = some (.wD c fs):=by
 unfold Bv at h;split at h
 ·cases h;assumption
 ·cases h
section
variable {G:Gx}{k:Nat}{X:Cx}{o a:Expr}{fo fa:Em}{pos p p2:Pos}
structure Sys (K:W.Frag):Prop where
 get:W.specialIn K (.builtin "object.__class__") "__get__"=some (some (.builtin "getset_descriptor.__get__"))
 aoK:W.takesIn K (.builtin "object.__class__")=some true
end
noncomputable def zP (l:Option Nat)(x:Option Tr)(τ:En):En:=match l with|some l=>τ.set l x|none=>τ
noncomputable def xN (l:Option Nat)(r:RS):RS:=match r with
 |.nx τ S=>.nx (zP l none τ) S
 |.bk τ S=>.bk (zP l none τ) S
 |.ct τ S=>.ct (zP l none τ) S
 |.rt t S=>.rt t S
 |_=>.ay
noncomputable def kT (cs:List Str)(l:Option Nat)(sh:Sm)(τ:En)(r:R Tr):RS:=match r with
 |.ok _ S=>.nx τ S
 |.ex e S=>(match Bv S e with|some (c,_)=>if c∈cs then xN l (sh (zP l (some (.hd e)) τ) S) else .ay|none=>.ay)
 |.ay=>.ay
noncomputable def Gr (c m:Str)(n:Nat)(q:Fn)(fo:Em)(fr:En->Cs->R (List Tr))(cs:List Str)(l:Option Nat)(sh:Sm):Sm:=λτ S=>(fo τ S).bU λt S1=>match t with
 |.hd i=>(match iO S1 i with
  |some (c',fs)=>if c'=c/\(aP m fs).isNone=true then (fr τ S1).bU λts S2=>(if (t::ts).length=n then kT cs l sh τ (q (t::ts) S2) else .ay) else .ay
  |none=>.ay)
 |_=>.ay
noncomputable def sf (G:Gx)(B:Addr)(cs:List Str):Prop:=∀c∈cs,∃f bm,rX G.K (G.cl c) f bm/\(Value.ref (G.cl c)::bm).contains (.ref B)=true
theorem ji {α:Type}:∀{l:List α} {i:Nat} {c:α},l[i]? = some c->l.set i c=l
 |[],i,c,h=>by simp at h
 |x::r,0,c,h=>by simp at h;simp[h]
 |x::r,i+1,c,h=>by simp only[zaE] at h;rw[zdF,ji h]
theorem HR.LJ (h:HR G w S H)(he:S[e]? = some (.wD c fs)):∃d T,H (w.ρ e)=some (tD (w.ρ e) (G.cl c) (some d) T)/\H T=some (TB T)/\T≠w.ρ e /\
  ∀T',H T'=none->T'≠w.ρ e->∃w',w.le w'/\w'.ρ=w.ρ /\ HR G w' S (br (br H (w.ρ e) (tD (w.ρ e) (G.cl c) (some d) T')) T' (TB T')):=by
 obtain⟨T,d,wG,h1,h2,h3,h4,h5,h6⟩:=h.cell _ _ he;refine⟨d,T,h1,h.sub _ _ h2,h4,λT' hT' ne=>?_⟩
 obtain⟨dG,eW⟩:=h.ZT hT' (TB T')
 have hdT:d≠T':=λz=>by rw[z,h.LR hT'] at h3;cases h3
 have mG:=dG.Dv he rfl (c':=.wD c fs) rfl (o:=tD (w.ρ e) (G.cl c) (some d) T') ⟨T',d,wG,av,av,by show br w.F T' (TB T') d=_;rw[aq hdT];exact h3,ne,h5,h6.mono eW⟩
 rw[ji he] at mG;refine⟨_,eW,rfl,?_⟩
 have:br (br H (w.ρ e) (tD (w.ρ e) (G.cl c) (some d) T')) T' (TB T')=br (br H T' (TB T')) (w.ρ e) (tD (w.ρ e) (G.cl c) (some d) T'):=by
  funext b
  by_cases b1:b=T'
  ·subst b1;rw[av,aq ne,av]
  ·rw[aq b1]
   by_cases b2:b=w.ρ e
   ·subst b2;rw[av,av]
   ·rw[aq b2,aq b2,aq b1]
 rw[this];exact mG
section
variable {K:W.Frag}{cl:Str->Addr}{k j n:Nat}{X:Cx}{f B:Addr}{fd:FuncData}{ps:List Str}{q:Fn}{m cB nn c:Str}{p cp ap np ep hp pos:Pos}{e o:Expr}{es:List Expr}{fr:En->Cs->R (List Tr)}{fo:Em}{lH:List Stmt}{rP:Stmt}{sh:Sm}{l:Nat}{cs:List Str}
 {U0 q':Str} {N':Addr} {U1 Ka:List Value} {qR:Bool} {U3:List Str} {A1:List Value} {U4:Bool} {A2:Option Bool} {CY:Option Addr} {j0 j1 j2 j3 j5:Option Value} {mD:String}
theorem HR.swE (h:HR ⟨K,cl,E⟩ w S H):HR ⟨K,cl,E'⟩ w S H:=HR.unx (G:=⟨K,cl,E'⟩) (HR.nx (G:=⟨K,cl,E⟩) h)
theorem MB {lo:Option Nat}(hC:sf ⟨K,cl,E⟩ B cs)(sl:Sl w2 τ σ)(q2:bV ⟨K,cl,E⟩ w2 (kT cs lo sh τ r) D)
  (hkk:∀a H',(∃w S n,w2.le w/\HR ⟨K,cl,E⟩ w S H'/\n<w.n/\a=w.ρ n/\bV ⟨K,cl,E⟩ w (xN lo (sh (zP lo (some (.hd n)) τ) S)) D)->kk a H'):bg RT ⟨K,cl,aaz K B kk⟩ w2 r λ_ H3=>D.nx σ H3:=by
 cases r with
 |ok a S3=>exact λw' H' b le wM _=>q2 w' H' σ le wM.swE (sl.mono le)
 |ay=>exact q2
 |ex en S3 =>
  unfold kT at q2;simp only at q2
  split at q2
  ·rename_i c2 fs2 ei
   split at q2
   ·rename_i hc
    refine⟨c2,fs2,ow ei,λw' H' le wM=>?_⟩
    obtain⟨d,T,h1,h2,h3,h4⟩:=wM.LJ (ow ei)
    obtain⟨f',bm,M,Ay⟩:=hC c2 hc;refine⟨_,_,f',bm,some d,T,rfl,rfl,M,Ay,h1,h2,h3,λT' a1 a2=>?_⟩
    obtain⟨w3,i7,e3,mG⟩:=h4 T' a1 a2;have hn:en<w3.n:=by
     have:=(zae.mp (ow ei)).1
     rw[mG.n];exact this
    exact hkk _ _ ⟨w3,S3,en,le.trans i7,mG.swE,hn,by rw[e3],bV.wd (le.trans i7) q2⟩
   ·exact q2.elim
  ·exact q2.elim
theorem MC {pl:Sem Bool}(hB:K.lookup B=some (excClassObj U0 q' B N' U1 Ka qR U3 A1 U4 A2 CY j0 j1 j2 j3 j5 mD))(hbB:Ka.contains (.type "BaseException")=true)(hC:sf ⟨K,cl,E0⟩ B cs)(hmB:X.mg cB=some (.ref B))
  (hc:vV K (cl c)) (hM:dD K (cl c) m f) (F:aO X.prog X.w X.K X.mg X.base (wC X.prog X.w) j f fd ps (dS K cl n q)) (hj:j<=k) (hb:eO X.K fd ps []) (ho:TV ⟨K,cl,E0⟩ k X.CV o fo) (ha:wI ⟨K,cl,E0⟩ k X.CV (e::es) fr)
  (hs:∀a,F6 ⟨K,cl,E0⟩ 0 (X.mz a).CV (rP::lH) sh) (zN:X.cY=X.env::X.outer:=by rfl) (C3:X.env.frame=some X.env.locals:=by rfl)
  (hgB:Gl X cB:=by rfl) (Se:(cB == ("__debug__" : Str))=false:=by decide) (Rm:swapsWith (.Call (.Attribute o m ap) (e::es) [] cp) none ep.line X.env=pure false:=by rfl)
  (qa:dN e=false:=by rfl) (hpl:dh es=true:=by rfl)
  (ht:eval (.Call (.Attribute o m ap) (e::es) [] cp) X.env=(do
   let ov <-eval o X.env
   standAt ap.atName
   let (f,first) <-holding [ov] (getMethod ov m pl)
   callWith cp f first (backTo cp (starEach (e::es) X.env)) (backToKw cp (keywordEach [] X.env))):=by rfl) (C8:0<k:=by first|decide|omega):
  wJ ⟨K,cl,E0⟩ k X (.Try [.Expr (.Call (.Attribute o m ap) (e::es) [] cp) ep] [.ExceptHandler (some (.Name cB np)) none (rP::lH) hp] [] [] pos) (Gr c m n q fo fr cs none sh):=.mk<|λox =>
 (MA (pl:=pl) (C:=cl c) (ox.fM C8) zN C3 hgB hmB (by rw[ox.K];exact hB) hbB (ho ⟨ox.K,ox.fM,ox.room,ox.un⟩) (by rw[ox.K];exact hc) (by rw[ox.K];exact hM) F ((ox.room C8).mono hj) hb (ha ⟨ox.K,ox.fM,ox.room,ox.un⟩)  (λa=>hs a ⟨ox.K,λz=>absurd z (zbc 0),λz=>absurd z (zbc 0),ox.un⟩) Se Rm (di qa) (fX hpl) ht).wk λD σ H h=>by
  obtain⟨w,S,τ,hr,sl,qq⟩:=h;refine⟨w,S,τ,hr,sl,(bV.az qq).mono λv H1 iy=>?_⟩
  obtain⟨w1,S1,t,cW,bL,r1,_,q1⟩:=iy;split at q1
  ·split at q1
   ·rename_i c' fs ei
    split at q1
    ·rename_i hc
     obtain⟨rfl,hm⟩:=hc;obtain⟨dx,wG,h1,h2⟩:=bL.cell _ _ (fG ei)
     refine⟨_,dx,wG,r1.cT.2,h1,(iA (k:=m) h2).2 (zdR.mp hm),w1,S1,τ,bL,sl.mono cW,(bV.az q1).mono λvs H2 jc=>?_⟩
     obtain⟨w2,S2,ts,eW,dG,r2,_,q2⟩:=jc;split at q2
     ·rename_i hn
      rw[zaw];refine⟨w2,S2,_,dG.swE,.cons (RT.mono eW _ _ r1) r2,hn,?_⟩
      rw[ox.K];refine MB hC ((sl.mono cW).mono eW) q2 λa H' Bb=>?_
      obtain⟨w3,S3,en,i7,mG,hn3,ea,q3⟩:=Bb;subst ea;refine⟨w3,S3,τ,mG,(sl.mono cW).mono (eW.trans i7),?_⟩
      have q3:bV ⟨K,cl,E0⟩ w3 (xN none (sh τ S3)) D:=q3
      generalize sh τ S3=z at q3 ⊢
      cases z with
      |nx iU S4=>exact q3
      |bk iU S4=>exact q3
      |ct iU S4=>exact q3
      |rt iU S4=>exact q3
      |ex iU S4=>exact q3.elim
      |ay=>exact q3
     ·exact q2.elim
    ·exact q1.elim
   ·exact q1.elim
  ·exact q1.elim
end
structure EC (K:W.Frag) (mg:Str->Option Value) (B:Addr) (x:Str) (C f:Addr) (st:Stmt) (fd:FuncData) (ps:List Str):Prop where
 M:rX K C f (.ref B::rW)
 m:mg x=some (.ref C)
 b:eO K fd ps []
 lk:∃(oc:Value) (od:Option Addr) (dV kV nW pm:Value) (an:Option Addr) (fC ct:Value) (Du:Array (Option Value)) (q:Str),
  fd=W.fnOf "__init__" q (d9 st) (cR st) (ak st) dV kV nW pm an fC ct/\K.lookup f=some ⟨oc,od,.func fd,Du⟩/\W.codeIn K fC q=true
structure aaE (K:W.Frag) (mg:Str->Option Value) (B:Addr) (cs:List (Str×Addr×Addr)):Prop where
 m:mg "BookError"=some (.ref B)
 EB:UX K B
 P8:(W.clsIn K B).isSome=true
 tyB:W.typeIn K (.ref B)=some (.type "type")
 oB:∃nm q N bs hd sn sub ab sY dd j0 j1 j2 j3 j5 o6,K.lookup B=some (excClassObj nm q B N bs rW hd sn sub ab sY dd j0 j1 j2 j3 j5 o6)
 sy:Sys K
 all:∀p∈cs,mg p.1=some (.ref p.2.1)/\rX K p.2.1 p.2.2 (.ref B::rW)
section
variable {P:Program}{w:World}{K:W.Frag}{mg:Str->Option Value}{base:Heap}{B:Addr}{cs:List (Str×Addr×Addr)}
theorem EC.ok {st:Stmt}(F:EC K mg B x C f st fd ps)(S:au N ps (ak st))(len:∀vs H Q E,sp vs H Q E->vs.length=ps.length)
  (sQ:∀(q:Str) (fC:Value) (A:Around) (outer:List Env) (s:Shared) (H:Hp) (vs:List V) (Q:VK) (E:XK),gP k (A.deeper (PyProof.Rows.envOfC q (ak st) s.heap.objs.size f fC))->sp vs H Q E ->
   ∃t,wg (jw eS P w K mg base N q (ak st) f fC A outer s H E).CV (cR st) t/\t {nx:=λ_ H'=>Q .bw H',rt:=Q} (L2.cV N vs) H):aO P w K mg base eS (k+1) f fd ps sp:=by
 obtain⟨oc,od,dV,kV,nW,pm,an,fC,ct,Du,q,rfl,lk,AG⟩:=F.lk;refine K1 lk AG S len λA outer s H vs Q E hr J8=>?_
 obtain⟨t,h,z⟩:=sQ q fC A outer s H vs Q E hr J8;exact⟨t,h.CV,z⟩
noncomputable def gE2 (g h:Str):List V->List (Str×V)|[_,y,z]=>[(g,y),(h,z)]|_=>[]
noncomputable def gT2 (g h:Str):List Tr->List (Str×Tr)|[_,y,z]=>[(g,y),(h,z)]|_=>[]
theorem gR2:∀w ts vs,bF w ts vs->ts.length=3->RK w (gT2 g h ts) (gE2 g h vs):=λw ts vs r hl=>by
 match ts,hl with
 |[a,b,c],_ =>
  obtain⟨x,r1,rfl,h1,h2⟩:=r.bh;obtain⟨y,r2,rfl,h3,h4⟩:=h2.bh;obtain⟨z,r3,rfl,h5,h6⟩:=h4.bh;rw[h6.bP];exact .cons h3 (.cons h5 .nil)
noncomputable def aaF (K:W.Frag)(B:Addr):Prop:=∃nm q N bs bm hd sn sub ab sY dd j0 j1 j2 j3 j5 o6,K.lookup B=some (excClassObj nm q B N bs bm hd sn sub ab sY dd j0 j1 j2 j3 j5 o6)/\bm.contains (.type "BaseException")=true
theorem aaE.lC (E:aaE K mg B cs):aaF K B:=by
 obtain⟨nm,q,N,bs,hd,sn,sub,ab,sY,dd,j0,j1,j2,j3,j5,o6,h⟩:=E.oB;exact⟨nm,q,N,bs,rW,hd,sn,sub,ab,sY,dd,j0,j1,j2,j3,j5,o6,h,by decide +kernel⟩
theorem rX.alV (M:rX K C f (.ref B::rW)):aaF K C:=by
 obtain⟨nm,q,N,bs,sn,sub,ab,sY,dd,k0,k1,k2,k3,k5,h⟩:=M.lC;exact⟨nm,q,N,bs,_,true,sn,sub,ab,sY,dd,k0,k1,k2,k3,k5,_,h,by rw[zbC,show rW.contains (.type "BaseException")=true by decide +kernel,zcQ]⟩
theorem MD:(Value.ref C::.ref B::rW).contains (.ref C)=true:=by simp[zbC]
end
section
variable {K:W.Frag}{cl:Str->Addr}{k j n:Nat}{X:Cx}{f B:Addr}{fd:FuncData}{ps:List Str}{q:Fn}{m cB nn c:Str}{p cp ap np ep hp pos:Pos}{e o:Expr}{es:List Expr}{fr:En->Cs->R (List Tr)}{fo:Em}{lH:List Stmt}{rP:Stmt}{sh:Sm}{l:Nat}{cs:List Str}
theorem IX (hB:aaF K B)(hC:sf ⟨K,cl,E0⟩ B cs)(hmB:X.mg cB=some (.ref B))
  (hc:vV K (cl c)) (hM:dD K (cl c) m f) (F:aO X.prog X.w X.K X.mg X.base (wC X.prog X.w) j f fd ps (dS K cl n q)) (hj:j<=k) (hb:eO X.K fd ps []) (ho:TV ⟨K,cl,E0⟩ k X.CV o fo) (ha:wI ⟨K,cl,E0⟩ k X.CV (e::es) fr)
  (hs:∀a,F6 ⟨K,cl,E0⟩ 0 (X.mz a).CV (rP::lH) sh) (zN:X.cY=X.env::X.outer:=by rfl) (C3:X.env.frame=some X.env.locals:=by rfl)
  (hgB:Gl X cB:=by rfl) (Se:(cB == ("__debug__" : Str))=false:=by decide) (Rm:swapsWith (.Call (.Attribute o m ap) (e::es) [] cp) none ep.line X.env=pure false:=by rfl)
  (qa:dN e=false:=by rfl) (hpl:dh es=true:=by rfl)
  (ht:eval (.Call (.Attribute o m ap) (e::es) [] cp) X.env=(do
   let ov <-eval o X.env
   standAt ap.atName
   let (f,first) <-holding [ov] (getMethod ov m pl)
   callWith cp f first (backTo cp (starEach (e::es) X.env)) (backToKw cp (keywordEach [] X.env))):=by rfl) (C8:0<k:=by first|decide|omega):
  wJ ⟨K,cl,E0⟩ k X (.Try [.Expr (.Call (.Attribute o m ap) (e::es) [] cp) ep] [.ExceptHandler (some (.Name cB np)) none (rP::lH) hp] [] [] pos) (Gr c m n q fo fr cs none sh):=by
 obtain⟨_,_,_,_,_,_,_,_,_,_,_,_,_,_,_,_,_,h,hbB⟩:=hB;exact MC h hbB hC hmB hc hM F hj hb ho ha hs zN C3 hgB Se Rm qa hpl ht C8
end
noncomputable def kIf (a b:Sm)(τ:En):Bool->Cs->RS:=λx S=>if x=true then a τ S else b τ S
theorem agU:kIf a b τ true S=a τ S:=rfl
theorem agV:kIf a b τ false S=b τ S:=rfl
theorem vIf:cF c a b τ S=(c τ S).bU (kIf a b τ):=rfl
noncomputable def kRt:Tr->Cs->RS:=λt S=>.rt t S
theorem agW:kRt t S = .rt t S:=rfl
theorem alX:aE f τ S=(f τ S).bU kRt:=rfl
noncomputable def kNx {α:Type}(τ:En):α -> Cs->RS:=λ_ S=>.nx τ S
theorem agX {α:Type}{τ:En}{t:α}{S:Cs}:kNx τ t S = .nx τ S:=rfl
theorem agY:eV f τ S=(f τ S).bU (kNx τ):=rfl
noncomputable def rQ (i:Nat)(τ:En):Tr->Cs->RS:=λt S=>.nx (τ.set i (some t)) S
theorem alY:aR i f τ S=(f τ S).bU (rQ i τ):=rfl
noncomputable def kEn:En->Cs->RS:=λτ S=>.nx τ S
theorem agZ:kEn τ S = .nx τ S:=rfl
noncomputable def ag0 (b:Tr->En->Cs->R En)(τ:En):Tr->Cs->RS:=λt S=>(b t τ S).bU kEn
theorem aaG:ag0 b τ t S=(b t τ S).bU kEn:=rfl
theorem al0:Eb f b τ S=(f τ S).bU (ag0 b τ):=rfl
theorem ag1:aB τ S = .nx τ S:=rfl
theorem ag2:Mj τ S = .ct τ S:=rfl
noncomputable def Ek (cs:List Str)(f:Str)(τ:En)(t:Tr):Tr->Cs->RS:=λu S=>(pB cs f u t S).bU (kNx τ)
theorem ME:Ek cs f τ t u S=(pB cs f u t S).bU (kNx τ):=rfl
noncomputable def Vi (cs:List Str)(f:Str)(fo:Em)(τ:En):Tr->Cs->RS:=λt S=>(fo τ S).bU (Ek cs f τ t)
theorem Sf:Vi cs f fo τ t S=(fo τ S).bU (Ek cs f τ t):=rfl
theorem ag3:cu cs f fo fv τ S=(fv τ S).bU (Vi cs f fo τ):=rfl
noncomputable def kB:Tr->Cs->R Bool:=λt S=>match t with|.bl b=>.ok b S|_=>.ay
theorem al1:kB (.bl b) S = .ok b S:=rfl
theorem vB:mB f τ S=(f τ S).az kB:=rfl
noncomputable def zQ (g:Tr->Tr->Cs->R Tr)(fb:Em)(τ:En):Tr->Cs->R Tr:=λt S=>(fb τ S).az (g t)
theorem aaH:zQ g fb τ t S=(fb τ S).az (g t):=rfl
theorem al2:ai g fa fb τ S=(fa τ S).az (zQ g fb τ):=rfl
theorem vUn:P5 g fa τ S=(fa τ S).az g:=rfl
theorem vC:mC t τ S = .ok t S:=rfl
theorem ag4:bA g fr τ S=(fr τ S).az g:=rfl
noncomputable def gn (t:Tr):List Tr->Cs->R (List Tr):=λts S=>.ok (t::ts) S
theorem MF:gn t ts S = .ok (t::ts) S:=rfl
noncomputable def MG (r:En->Cs->R (List Tr))(τ:En):Tr->Cs->R (List Tr):=λt S=>(r τ S).az (gn t)
theorem Sg:MG r τ t S=(r τ S).az (gn t):=rfl
theorem ag5:af f r τ S=(f τ S).az (MG r τ):=rfl
theorem al3:aj τ S = .ok [] S:=rfl
noncomputable def Bw:List Tr->Cs->R Tr:=λts S=>if ts.length<=sizeLine then .ok (.tp ts) S else .ay
theorem al4:dO fr τ S=(fr τ S).az Bw:=rfl
noncomputable def zR:List Tr->Cs->R Tr:=λts S=>if ts.length<=sizeLine then .ok (.ls ts) S else .ay
theorem al5:jH fr τ S=(fr τ S).az zR:=rfl
noncomputable def MH:List Tr->Cs->R Tr:=λts S=>if ts.length<=sizeLine then .ok (.hd S.length) (S++[.aV ts]) else .ay
theorem ag6:o9 fr τ S=(fr τ S).az MH:=rfl
noncomputable def kFn (n:Nat)(q:Fn):List Tr->Cs->R Tr:=λts S=>if ts.length=n then q ts S else .ay
theorem vFn:dR n q fr τ S=(fr τ S).az (kFn n q):=rfl
noncomputable def ue (n:Nat)(q:Fn)(t:Tr):List Tr->Cs->R Tr:=λts S=>if (t::ts).length=n then q (t::ts) S else .ay
noncomputable def Vj (c m:Str)(n:Nat)(q:Fn)(fr:En->Cs->R (List Tr))(τ:En):Tr->Cs->R Tr:=λt S1=>match t with
 |.hd i=>(match iO S1 i with
  |some (c',fs)=>if c'=c/\(aP m fs).isNone=true then (fr τ S1).az (ue n q t) else .ay
  |none=>.ay)
 |_=>.ay
theorem Sh:Vj c m n q fr τ (.hd i) S=match iO S i with
  |some (c',fs)=>if c'=c/\(aP m fs).isNone=true then (fr τ S).az (ue n q (.hd i)) else .ay
  |none=>.ay:=rfl
theorem ag7:aN c m n q fo fr τ S=(fo τ S).az (Vj c m n q fr τ):=rfl
noncomputable def uf (k:Nat):Tr->Cs->R Tr:=λr S=>match r with|.bw=>.ok (.hd k) S|_=>.ay
theorem MI:uf k .bw S = .ok (.hd k) S:=rfl
noncomputable def Gs (c:Str)(n:Nat)(q:Fn):List Tr->Cs->R Tr:=λts S1=>if ts.length+1=n then (q (.hd S1.length::ts) (S1++[.fE c []])).az (uf S1.length) else .ay
theorem ag8:xJ c n q fr τ S=(fr τ S).az (Gs c n q):=by
 unfold xJ Gs uf;rfl
theorem al6:bD cs f fo τ S=(fo τ S).az (IM cs f):=rfl
noncomputable def aaI (a b:Em)(τ:En):Bool->Cs->R Tr:=λx S=>if x=true then a τ S else b τ S
theorem aaJ:aaI a b τ true S=a τ S:=rfl
theorem aaK:aaI a b τ false S=b τ S:=rfl
theorem al7:DW c a b τ S=(c τ S).az (aaI a b τ):=rfl
noncomputable def ag9:Tr->Cs->R Tr:=λt S=>match t with|.bl b=>.ok (.bl (!b)) S|_=>.ay
theorem aaL:ag9 (.bl b) S = .ok (.bl (!b)) S:=rfl
theorem al8:IK f τ S=(f τ S).az ag9:=rfl
noncomputable def aaM (tb:En->Cs->R Bool)(τ:En):Bool->Cs->R Bool:=λx S=>if x=true then tb τ S else .ok false S
theorem aaN:aaM tb τ true S=tb τ S:=rfl
theorem aaO:aaM tb τ false S = .ok false S:=rfl
theorem al9:jG ta tb τ S=(ta τ S).az (aaM tb τ):=rfl
noncomputable def kOr (tb:En->Cs->R Bool)(τ:En):Bool->Cs->R Bool:=λx S=>if x=true then .ok true S else tb τ S
theorem aha:kOr tb τ true S = .ok true S:=rfl
theorem ahb:kOr tb τ false S=tb τ S:=rfl
theorem vOr:DU ta tb τ S=(ta τ S).az (kOr tb τ):=rfl
noncomputable def Vk:Bool->Cs->R Bool:=λx S=>.ok (!x) S
theorem Si:Vk x S = .ok (!x) S:=rfl
theorem ahc:wK ta τ S=(ta τ S).az Vk:=rfl
noncomputable def Vl (fb:Em)(τ:En):Tr->Cs->R Tr:=λt S=>alR t (fb τ S) S
theorem Sj:Vl fb τ (.bl b) S=if b=true then fb τ S else .ok (.bl false) S:=by cases b<;>rfl
theorem ahd:kK fa fb τ S=(fa τ S).az (Vl fb τ):=rfl
noncomputable def ahf (fb:Em)(τ:En):Tr->Cs->R Tr:=λt S=>orV t (fb τ S) S
theorem aaP:ahf fb τ (.bl b) S=if b=true then .ok (.bl true) S else fb τ S:=by cases b<;>rfl
theorem amb:U_ fa fb τ S=(fa τ S).az (ahf fb τ):=rfl
noncomputable def ahg (ck:Cs->Tr->Bool)(g:Tr->List Tr->Cs->R Tr)(fr:En->Cs->R (List Tr))(τ:En):Tr->Cs->R Tr:=λt S=>if ck S t=true then (fr τ S).az (g t) else .ay
theorem aaQ:ahg ck g fr τ t S=if ck S t=true then (fr τ S).az (g t) else .ay:=rfl
theorem amc:tV ck g fo fr τ S=(fo τ S).az (ahg ck g fr τ):=rfl
noncomputable def ahh (b:Tr->En->Cs->R En)(f:Sm)(τ:En):Ax->Cs->RS:=λs S=>jL s.iH b f s.items τ S
theorem aaR:ahh b f τ s S=jL s.iH b f s.items τ S:=rfl
theorem amd:Bm fi b f τ S=(fi τ S).bU (ahh b f τ):=rfl
theorem vIt:tZ g f τ S=(f τ S).az g:=rfl
noncomputable def MJ (n:Nat)(q:Fn)(cs:List Str)(l:Option Nat)(sh:Sm)(τ:En)(t:Tr):List Tr->Cs->RS:=λts S=>if (t::ts).length=n then kT cs l sh τ (q (t::ts) S) else .ay
theorem Sk:MJ n q cs l sh τ t ts S=if (t::ts).length=n then kT cs l sh τ (q (t::ts) S) else .ay:=rfl
noncomputable def ahi (c m:Str)(n:Nat)(q:Fn)(fr:En->Cs->R (List Tr))(cs:List Str)(l:Option Nat)(sh:Sm)(τ:En):Tr->Cs->RS:=λt S1=>match t with
 |.hd i=>(match iO S1 i with
  |some (c',fs)=>if c'=c/\(aP m fs).isNone=true then (fr τ S1).bU (MJ n q cs l sh τ t) else .ay
  |none=>.ay)
 |_=>.ay
theorem aaS:ahi c m n q fr cs l sh τ (.hd i) S=match iO S i with
  |some (c',fs)=>if c'=c/\(aP m fs).isNone=true then (fr τ S).bU (MJ n q cs l sh τ (.hd i)) else .ay
  |none=>.ay:=rfl
theorem ame:Gr c m n q fo fr cs l sh τ S=(fo τ S).bU (ahi c m n q fr cs l sh τ):=rfl
theorem El:kT cs l sh τ (.ok t S) = .nx τ S:=rfl
theorem IY:kT cs l sh τ (.ex e S)=match Bv S e with|some (c,_)=>if c∈cs then xN l (sh (zP l (some (.hd e)) τ) S) else .ay|none=>.ay:=rfl
theorem Sn:xN l (.ct τ S) = .ct (zP l none τ) S:=rfl
theorem So:xN l (.rt t S) = .rt t S:=rfl
noncomputable def RS.aaT (r:RS):R Tr:=match r with|.nx _ S'=>.ok .bw S' | .rt t S'=>.ok t S' | .ex n S'=>.ex n S' | _=>.ay
theorem Sq (τ:En)(S:Cs):(RS.nx τ S).aaT = .ok .bw S:=rfl
theorem Ss (t:Nat)(S:Cs):(RS.ex t S).aaT = .ex t S:=rfl
theorem aaU (t:Nat)(S:Cs)(g:Sm):(RS.ex t S).seq g = .ex t S:=rfl
noncomputable def MK (c:Str)(n:Nat)(gT:List Tr->List (Str×Tr))(Gq:List Tr):List Tr->Cs->RS:=λts S1=>if ts.length+Gq.length=n/\n<=1000 then .ex S1.length (S1++[.wD c (gT (ts++Gq))]) else .ay
theorem ML:MK c n gT Gq ts S=if ts.length+Gq.length=n/\n<=1000 then .ex S.length (S++[.wD c (gT (ts++Gq))]) else .ay:=rfl
theorem aaV:zL c n gT Gq fr τ S=(fr τ S).bU (MK c n gT Gq):=rfl
theorem aaW (i j:Nat)(fr:En->Cs->R (List Tr))(τ:En)(S:Cs):RQ i j fr τ S=((fr τ S).bU λts S1=>match ts with|[t,u]=>.nx ((τ.set i (some t)).set j (some u)) S1|_=>.ay):=rfl
theorem Su (cs:List Str)(f:Str)(g:Int->Int->Int)(fo fv:Em)(τ:En)(S:Cs):xG cs f g fo fv τ S=((fo τ S).bU λt S1=>match t with
 |.hd n=>(match iO S1 n with
  |some (c,fs)=>if c∈cs then (match aP f fs with
   |some (.int i)=>(fv τ S1).bU λy S2=>(match y with
    |.int j=>(match iO S2 n with|some (c',J7)=>if c'=c/\J7.length<1000 then .nx τ (S2.set n (.fE c (cC f (.int (g i j)) J7))) else .ay|none=>.ay)
    |_=>.ay)
   |_=>.ay) else .ay
  |none=>.ay)
 |_=>.ay):=rfl
theorem MM (g g':Tr->Tr->Cs->R Tr)(fa fb fc:Em)(τ:En)(S:Cs):mE g g' fa fb fc τ S=((fa τ S).az λt1 S1=>(fb τ S1).az λt2 S2=>(g t1 t2 S2).az λz S3=>match z with
 |.bl true=>(fc τ S3).az λt3 S4=>g' t2 t3 S4
 |.bl false=>.ok (.bl false) S3
 |_=>.ay):=rfl
theorem aaX (u:String)(fa:Em)(τ:En)(S:Cs):jx u fa τ S=((fa τ S).az λt S1=>match Ko S1 t with|some ty=>(match nL ty u with|some b=>.ok (.bl b) S1|none=>.ay)|none=>.ay):=rfl
theorem Sv (fo fe ff:Em)(τ:En)(S:Cs):Gh fo fe ff τ S=((fo τ S).az λt S1=>if ckD S1 t=true then (fe τ S1).az λj S2=>(ff τ S2).az λu S3=>(match F7 S3 t,gU j with|some m,some q=>.ok ((aP q m).getD u) S3|_,_=>.ay) else .ay):=rfl
theorem MN  (u0:En) (S:Cs):Eg  u0 S=(.ok (.hd S.length) (S++[.gQ []])):=rfl
theorem Sw (ps:List (Em×Em))(τ:En)(S:Cs):pC ps τ S=((IQ ps τ (S++[.gQ []])).az λl S1=>match mH S1 S.length with
 |some []=>if l.length<=15 then .ok (.hd S.length) (S1.set S.length (.gQ (eB [] l))) else .ay
 |_=>.ay):=rfl
theorem ahj (g:Tr->Option Int->Option Int->Cs->R Tr)(fa:Em)(fl fh:En->Cs->R (Option Int))(τ:En)(S:Cs):Kn g fa fl fh τ S=((fa τ S).az λt S1=>(fl τ S1).az λlo S2=>(fh τ S2).az λhi S3=>g t lo hi S3):=rfl
theorem Sx (f:Em)(τ:En)(S:Cs):gV f τ S=((f τ S).az λt S1=>match t with|.int i=>.ok (some i) S1|_=>.ay):=rfl
theorem IZ  (u0:En) (S:Cs):rZ  u0 S=(.ok none S):=rfl
theorem Sy (fo fi fv:Em)(τ:En)(S:Cs):nQ fo fi fv τ S=((fv τ S).bU λt S1=>(fo τ S1).bU λu S2=>(fi τ S2).bU λj S3=>(pA u j t S3).bU λ_ S4=>.nx τ S4):=rfl
theorem SA (n:Nat)(r:Bs)(t:Tr)(τ:En)(S:Cs):lF n r t τ S=(match Kf t with|some l=>if l.length=n then r l τ S else .ay|none=>.ay):=rfl
theorem SD (n:Nat)(r:Bs)(t:Tr)(τ:En)(S:Cs):Ga n r t τ S=(match vW S t with|some l=>if l.length=n then r l τ S else .ay|none=>.ay):=rfl
theorem SE (b:Tr->En->Cs->R En)(r:Bs)(ts:List Tr)(τ:En)(S:Cs):dH b r ts τ S=(match ts with|t::l=>(b t τ S).az λe_ S1=>r l e_ S1|[]=>.ay):=rfl
theorem aaY  (ts:List Tr) (τ:En) (S:Cs):qy  ts τ S=(match ts with|[]=>.ok τ S|_=>.ay):=rfl
theorem aaZ (fo fi:Em)(t:Tr)(τ:En)(S:Cs):aab fo fi t τ S=((fo τ S).az λu S1=>(fi τ S1).az λj S2=>match u,j with
 |.hd n,.int i=>(match cO S2 n with|some l=>(match CZ l.length i with|some m=>.ok τ (S2.set n (.aV (l.set m t)))|none=>.ay)|none=>.ay)
 |_,_=>.ay):=rfl
theorem SG (fr:En->Cs->R (List Tr))(τ:En)(S:Cs):xH fr τ S=((fr τ S).az λts S1=>match ts with
 |[.int j]=>wH (-(2 ^ 62)<=j/\j<2 ^ 62) (.ok ⟨rL 0 j.toNat,λ_=>True⟩ S1) .ay
 |_=>.ay):=rfl
theorem amf (g:Int->Int->Tr)(t1:Tr)(t2:Tr)(S:Cs):gI g t1 t2 S=(match t1,t2 with
 |.int i,.int j=>.ok (g i j) S
 |_,_=>.ay):=rfl
theorem ahk (c:Int->Int->Bool)(g:Int->Int->Tr)(t1:Tr)(t2:Tr)(S:Cs):Kg c g t1 t2 S=(match t1,t2 with
 |.int i,.int j=>if c i j=true then .ok (g i j) S else .ay
 |_,_=>.ay):=rfl
theorem aa0  (t1:Tr) (t2:Tr) (S:Cs):c_  t1 t2 S=(match t1,t2 with
 |.int i,.int j=>.ok (.int (i+j)) S
 |.str a,.str b=>if a.length+b.length<=sizeLine then .ok (.str (a++b)) S else .ay
 |.tp a,.tp b=>if a.isEmpty=false/\a.length+b.length<=sizeLine then .ok (.tp (a++b)) S else .ay
 |t1,t2=>match D0 S t1,D0 S t2 with
  |some a,some b=>if a.length+b.length<=sizeLine then .ok (.ls (a++b)) S else .ay
  |_,_=>.ay):=rfl
theorem aa1  (t1:Tr) (t2:Tr) (S:Cs):tR  t1 t2 S=(match t1,t2 with
 |.int i,.int j=>wH ((-(2 ^ 64)<i/\i<2 ^ 64)\/(-(2 ^ 64)<j/\j<2 ^ 64)) (.ok (.int (i * j)) S) .ay
 |.str a,.int n=>if 0<=n/\n<1000000/\a.length * n.toNat<=1000000 then .ok (.str (o4 a n.toNat)) S else .ay
 |_,_=>.ay):=rfl
theorem MO (neg:Bool)(a b:Str)(S:Cs):cE neg (.str a) (.str b) S = .ok (.bl (if neg=true then !decide (a=b) else decide (a=b))) S:=rfl
theorem MP (neg:Bool)(a b:Int)(S:Cs):cE neg (.int a) (.int b) S = .ok (.bl (if neg=true then !decide (a=b) else decide (a=b))) S:=rfl
theorem MQ (neg:Bool)(a b:Bool)(S:Cs):cE neg (.bl a) (.bl b) S = .ok (.bl (if neg=true then !(a == b) else (a == b))) S:=rfl
theorem aa2 (neg:Bool)(a:Int)(S:Cs):cE neg (.int a) .bw S = .ok (.bl (if neg=true then !false else false)) S:=rfl
theorem aa3 (neg:Bool)(t1:Tr)(t2:Tr)(S:Cs):iT neg t1 t2 S=(match t2 with
 |.bw=>.ok (.bl (if neg then !Z6 t1 else Z6 t1)) S
 |_=>.ay):=rfl
theorem ahl (neg:Bool)(t1:Tr)(t2:Tr)(S:Cs):xF neg t1 t2 S=(match t2 with
 |.str z=>(match t1 with|.str y=>.ok (.bl (if neg then !(!(Builtin.Str.occurrences z y 0 z.length 1).isEmpty) else !(Builtin.Str.occurrences z y 0 z.length 1).isEmpty)) S|_=>.ay)
 |t2=>match zo S t2 with
  |some l=>if dQ t1=true/\l.all dQ=true then .ok (.bl (if neg then !Km t1 l else Km t1 l)) S else .ay
  |none=>.ay):=rfl
theorem aa4 (neg:Bool)(t1:Tr)(t2:Tr)(S:Cs):Bf neg t1 t2 S=(match F7 S t2,gU t1 with
 |some m,some j=>.ok (.bl (if neg then !(aP j m).isSome else (aP j m).isSome)) S
 |_,_=>.ay):=rfl
theorem MR  (t1:Tr) (t2:Tr) (S:Cs):aZ  t1 t2 S=(match t1,t2 with
 |.str z,.int i=>if z.length<=sizeLine then (match iS z.cps.toList i with|some c=>.ok (.str ⟨#[c]⟩) S|none=>.ay) else .ay
 |t1,.int i=>(match zo S t1 with
  |some l=>(match iS l i with|some t=>.ok t S|none=>.ay)
  |none=>.ay)
 |_,_=>.ay):=rfl
theorem aa5  (t1:Tr) (t2:Tr) (S:Cs):jI  t1 t2 S=(match F7 S t1,gU t2 with
 |some m,some j=>(match aP j m with|some t=>.ok t S|none=>.ay)
 |_,_=>.ay):=rfl
theorem aa6  (ts:List Tr) (S:Cs):gy  ts S=(match ts with
 |[.str z]=>if z.length<=sizeLine then .ok (.int z.length) S else .ay
 |[t]=>(match zo S t with|some l=>.ok (.int l.length) S|none=>match F7 S t with|some m=>.ok (.int m.length) S|none=>.ay)
 |_=>.ay):=rfl
theorem SH  (ts:List Tr) (S:Cs):pe  ts S=(match ts with
 |[t]=>(match zo S t with|some l=>.ok (.ls l) S|none=>.ay)
 |_=>.ay):=rfl
theorem aa7  (ts:List Tr) (S:Cs):tU  ts S=(match ts with
 |[t]=>(match vW S t with|some l=>(match pq l with|some ns=>.ok (.int ns.sum) S|none=>.ay)|none=>.ay)
 |_=>.ay):=rfl
theorem aa8  (t:Tr) (ts:List Tr) (S:Cs):zw  t ts S=(match t,ts with
 |.hd n,[u]=>(match cO S n with|some l=>if l.length<sizeLine then .ok .bw (S.set n (.aV (l++[u]))) else .ay|none=>.ay)
 |_,_=>.ay):=rfl
theorem aa9  (t:Tr) (ts:List Tr) (S:Cs):RL  t ts S=(match t,ts with
 |.hd n,[u]=>(match cO S n,D0 S u with|some l,some m=>if l.length+m.length<=sizeLine then .ok .bw (S.set n (.aV (l++m))) else .ay|_,_=>.ay)
 |_,_=>.ay):=rfl
theorem SI  (u0:En) (S:Cs):fY  u0 S=(.ok true S):=rfl
theorem SJ (fi:En->Cs->R Ax)(fr:List Nat)(n:Nat)(b:Tr->En->Cs->R En)(c:En->Cs->R Bool)(f:Em)(τ:En)(S:Cs):fu fi fr n b c f τ S=((fi τ S).az λs S1=>(cS s.iH b c f s.items (jM fr n τ) [] S1).az λl S2=>.ok (.ls l) S2):=rfl
theorem amg  (t:Tr) (S:Cs):iL  t S=(match t with
 |.ls l=>.ok ⟨l,λ_=>True⟩ S
 |.kl l=>.ok ⟨l,λ_=>True⟩ S
 |.hd n=>(match cO S n with|some l=>.ok ⟨l,λS'=>cO S' n=some l⟩ S|none=>.ay)
 |_=>.ay):=rfl
theorem aba  (t:Tr) (S:Cs):rK  t S=(match t with|.int i=>.ok (.int (-i)) S|_=>.ay):=rfl
section
variable {prog:Program}{w:World}{A:Around}{E:Value->Shared->Prop}{s:Shared}{Z TI TO i1 i2:Addr}{Aw C0:List Addr}{n1 n2 k:Nat}{Y1 Y2:Nat->Value->Prop}{S1 S2:Nat->Heap->Prop}{p q:Value}
theorem I0 {Q:Fin->Shared->Prop}(D1:Draws prog w A i1 Aw n1 Y1 S1)(D2:Draws prog w A i2 C0 n2 Y2 S2)(N:sZ Z TI TO i1 i2 Aw C0)(zZ:IsZip s.heap Z TI TO .none)(zI:IsPair s.heap TI (.ref i1) (.ref i2))(zO:IsPair s.heap TO p q)
  (s1:S1 k s.heap) (s2:S2 n2 s.heap) (l1:k<n1)
  (kk:∀h' tk x,(∀c o,c≠Z->c≠TO->c≠i1->c≠i2->s.heap.get? c=some o->h'.get? c=some o)->(∃o,h'.get? x=some o/\o.cls = .type "StopIteration")->E (.ref x) {s with heap:=h',toks:=tk}):
  wpAny (model prog w) A (Builtin.«zip.__next__» ⟨[.ref Z],[]⟩) Q E s:=by
 obtain⟨hp,g,d,tk0,os⟩:=s;show wpAny _ _ (field (.ref Z) 2 >>= _) _ _ _
 refine zaa (zax zZ rfl (x:=.bool false) rfl ?_)
 show wpAny _ _ (field (.ref Z) 3 >>= _) _ _ _
 refine zaa (zax zZ rfl (x:=.ref TI) rfl (zaa (zbl zI rfl ?_)))
 show wpAny _ _ (Builtin.SmallTypes.ownedTupleIsFree (.ref Z) >>= _) _ _ _
 refine zaa ?_
 unfold Builtin.SmallTypes.ownedTupleIsFree;refine zaa (zax zZ rfl (x:=.none) rfl (zad ?_))
 simp only[if_true];refine zaa (zcU (zaa (zax zZ rfl (x:=.ref TO) rfl ?_)))
 refine zaa (zbD zZ (by simp) λg1 LA b1=>?_)
 replace LA:IsZip g1 Z TI TO .ellipsis:=LA
 replace b1:Heap.SameBut Z hp g1:=b1
 refine zaa ?_
 simp only[List.zipIdx_cons,List.zipIdx_nil,List.forIn_cons,List.forIn_nil];-- wW first
 refine zaa (zaa (zcZ ?_))
 show wpAny _ _ (Builtin.SmallTypes.nextOf (.ref i1) >>= _) _ _ _
 refine zaa (D1.item k _ _ _ l1 (D1.frame _ _ _ s1 λb hb o e=>b1.extBut b o (λz=>N.b1 (z ▸ hb)) e) λx g2 t2 y1 s12 b2=>zad ?_)
 replace b2:Heap.SameBut i1 g1 g2:=b2
 have zO2:IsPair g2 TO p q:=b2.extBut _ _ N.a6 (b1.extBut _ _ N.a2 zO)
 refine zaa (zbl zO2 rfl (zaa (zdl zO2 λg3 zO3 b3=>?_)))
 replace zO3:IsPair g3 TO x q:=zO3
 replace b3:Heap.SameBut TO g2 g3:=b3
 refine zaa (zeq (zad ?_))
 -- wW ZH
 refine zaa (zaa (zcZ ?_))
 show wpAny _ _ (Builtin.SmallTypes.nextOf (.ref i2) >>= _) _ _ _
 refine zaa (D2.done _ _ _ (D2.frame _ _ _ s2 λb hb o e=>b3.extBut b o (λz=>N.c2 (z ▸ hb)) (b2.extBut b o (λz=>N.c3 (z ▸ hb)) (b1.extBut b o (λz=>N.c1 (z ▸ hb)) e))) λg4 x2 b4 hx=>?_)
 replace b4:Heap.ExtBut i2 g3 g4:=b4
 obtain⟨ox,ex,cx⟩:=hx;have ZI:IsZip g4 Z TI TO .ellipsis:=b4 _ _ N.AY.symm (b3.extBut _ _ N.a2.symm (b2.extBut _ _ N.a9.symm LA))
 have xZ:x2≠Z:=λz=>by
  subst z;rw[ZI] at ex;cases ex;simp at cx
 exact zbD ZI (by simp) λg5 _ b5=>kk g5 _ x2 (λc o m1 m2 m3 m4 e=>b5.extBut _ _ m1 (b4 _ _ m4 (b3.extBut _ _ m2 (b2.extBut _ _ m3 (b1.extBut _ _ m1 e))))) ⟨ox,b5.extBut _ _ xZ ex,cx⟩
theorem Eo {Q:Option Value->Shared->Prop}(D1:Draws prog w A.in1 i1 Aw n1 Y1 S1)(D2:Draws prog w A.in1 i2 C0 n2 Y2 S2)(N:sZ Z TI TO i1 i2 Aw C0)(zZ:IsZip s.heap Z TI TO .none)(zI:IsPair s.heap TI (.ref i1) (.ref i2))(zO:IsPair s.heap TO p q)
  (s1:S1 k s.heap) (s2:S2 n2 s.heap) (l1:k<n1)
  (kk:∀h' tk,(∀c o,c≠Z->c≠TO->c≠i1->c≠i2->s.heap.get? c=some o->h'.get? c=some o)->Q none {s with heap:=h',toks:=tk}):wpAny (model prog w) A (pyNext (.ref Z)) Q E s:=by
 have zT:s.TypeIs (.ref Z) "zip" := ⟨_,zZ,rfl⟩
 unfold pyNext;refine zaa (zda (zaN (name:=Str.ofString "__next__") zT zcx (zaY zcx zT zdY (I0 D1 D2 N zZ zI zO s1 s2 l1 λh' tk x up hx=>?_) (zdM _))))
 obtain⟨ox,ex,cx⟩:=hx;exact zaa (zdZ (T:= "StopIteration") (b:=true) ⟨ox,ex,cx⟩ zew (zad (kk _ _ up)))
end
noncomputable def abb (K:W.Frag)(s_ xx:Bool)(a b:Addr):It:=
 ⟨(Itz K s_ xx a b).go,(Itz K s_ xx a b).yld,λi H=>(∃xs,AX K s_ H a xs/\xs.length=i)\/∃xs ys,AX K s_ H a xs/\i<xs.length/\AX K xx H b ys/\ys.length=i⟩
theorem I_ {P:Program}{w:World}{K:W.Frag}{elts:List Expr}{x1}{pos:Pos}(s_ xx:Bool)(a b n:Nat)(ha:a<n)(hb:b<n):
  HM P w K (.Tuple elts x1 pos) (abb K s_ xx a b) [(n+4:Nat),(n+2:Nat),(n+3:Nat),n,(n+1:Nat)] (n+4:Nat)
   (λi h=>IsZip h (n+4:Nat) (n+2:Nat) (n+3:Nat) .none/\IsPair h (n+2:Nat) (.ref n) (.ref (n+1:Nat))/\(∃p q,IsPair h (n+3:Nat) p q)/\mw s_ h n a i/\mw xx h (n+1:Nat) b i) where
 mem:=(jX (P:=P) (w:=w) (K:=K) (elts:=elts) (x1:=x1) (pos:=pos) s_ xx a b n ha hb).mem
 lC:=(jX (P:=P) (w:=w) (K:=K) (elts:=elts) (x1:=x1) (pos:=pos) s_ xx a b n ha hb).lC
 keep:=(jX (P:=P) (w:=w) (K:=K) (elts:=elts) (x1:=x1) (pos:=pos) s_ xx a b n ha hb).keep
 item:=(jX (P:=P) (w:=w) (K:=K) (elts:=elts) (x1:=x1) (pos:=pos) s_ xx a b n ha hb).item
 self:=(jX (P:=P) (w:=w) (K:=K) (elts:=elts) (x1:=x1) (pos:=pos) s_ xx a b n ha hb).self
 done:=by
  intro X hP hw hK hc i ah s σ H E I hf t hg;rcases hg with hg|⟨xs,ys,hxs,jR,hys,hy⟩
  ·exact (jX (P:=P) (w:=w) (K:=K) (elts:=elts) (x1:=x1) (pos:=pos) s_ xx a b n ha hb).done X hP hw hK hc i ah s σ H E I hf t hg
  subst hP hw hK;obtain⟨zZ,zI,⟨p,q,zO⟩,t1,t2⟩:=t
  obtain⟨aH,rv,so,_⟩:=I.ZC hxs;obtain⟨Rh,yO,so',_⟩:=I.ZC hys;have hh:X.A.in1.handled=none:=I.ok.hd hc
  have D1:=jW (P:=X.prog) (w:=X.w) (A:=X.A.in1) hh s_ n a (Kc ha) aH.toArray
  have D2:=jW (P:=X.prog) (w:=X.w) (A:=X.A.in1) hh xx (n+1:Nat) b (Kc (by omega)) Rh.toArray
  have N:=tu ha hb;have l1:i<aH.toArray.size:=by
   have:=rv.length
   simp
   omega
  have hn:Rh.toArray.size=i:=by
   have:=yO.length
   simp
   omega
  exact Eo D1 D2 N zZ zI zO ⟨t1,so⟩ (by rw[hn];exact⟨t2,so'⟩) l1 λh' tk up=>⟨rfl,I.zg (fp:=[(n+4:Nat),(n+2:Nat),(n+3:Nat),n,(n+1:Nat)]) (t':=tk) (λc o hc e=>up c o (λz=>hc (by simp[z])) (λz=>hc (by simp[z])) (λz=>hc (by simp[z])) (λz=>hc (by simp[z])) e) hf⟩
noncomputable def Vm (K:W.Frag)(ta:TA):TI:=λσ H R=>ta σ H λvs H1=>∃ κ a b xs ys,vs=[.ref a,.ref b]/\AX K κ H1 a xs/\AX K κ H1 b ys/\R (abb K κ κ a b) H1
theorem SK {a b:Expr}{ta:TA}{p pos tp:Pos}{elts:List Expr}{x1}(hg:Gl X "zip")(hm:X.mg "zip"=none)(ha:PA X [a,b] ta)(hs:starEach [a,b] X.env=[(false,eval a X.env),(false,eval b X.env)]:=by rfl)(J6:starEach [b] X.env=[(false,eval b X.env)]:=by rfl):
  PI X (.Tuple elts x1 tp) (.Call (.Name "zip" p) [a,b] [] pos) (Vm X.K ta):=by
 intro ah s σ H R I h;refine Call_ (sI I hg hm LD (zcE (cG (ha pos ah s σ H _ I h) λus s1 b9=>?_) (by rw[hs,J6]) (by rw[J6];rfl)))
 obtain⟨vs,H1,I1,r1,κ,l,m,xs,ys,ev,hl,hm',q⟩:=b9;subst ev;obtain⟨u1,u2,rfl,Zv,ru2⟩:=r1.two;cases (show u1=Value.ref l from Zv)
 cases (show u2=Value.ref m from ru2)
 obtain⟨aH,_,so,_⟩:=I1.ZC hl;obtain⟨Rh,_,so',_⟩:=I1.ZC hm';obtain⟨s4,zZ,zI,zO,e1,e2,up⟩:=LC s1.heap (gS κ l) (gS κ m) tw tw
 refine callType_new F.called_zip (by decide) (F.typeCall_zip_2 _ _) (F.newCall_zip_2 _ _) (λlC=>F.args_object_init_3 lC _ _) F.entry_zip_new (Iv κ l m aH.toArray Rh.toArray) ⟨so,so',?_⟩
 show _/\_
 rw[s4];refine⟨⟨_,zZ,rfl⟩,wpAny_pyIter_zip (s:={s1 with heap:=C2 s1.heap (gS κ l) (gS κ m)}) zZ ?_⟩
 refine⟨_,_,_,abb X.K κ κ l m,H1,rfl,I1.gz (t':=s1.toks) up,I_ κ κ l m s1.heap.objs.size so.lt so'.lt,⟨zZ,zI,⟨_,_,zO⟩,AZ e1,AZ e2⟩,λc hc=>?_,q⟩
 have ge:s1.heap.objs.size<=c:=by
  simp only[zap,zaC,or_false] at hc;rcases hc with rfl|rfl|rfl|rfl|rfl
  ·exact zaZ _ _
  ·exact zaZ _ _
  ·exact zaZ _ _
  ·exact zah _
  ·exact zaZ _ _
 exact I1.KC ge (I1.cg.fresh ge)
section
variable {G:Gx}{k:Nat}{X:Cx}{a b c o e tg:Expr}{es:List Expr}{fa fb f:Em}{fr:En->Cs->R (List Tr)}{pos p:Pos}
noncomputable def pH (l m:List Tr):List Tr:=(l.zip m).map λp=>Tr.tp [p.1,p.2]
theorem pI {l m:List Tr}{i:Nat}{t:Tr}(h:(pH l m)[i]? = some t):∃u v,l[i]? = some u/\m[i]? = some v/\t = .tp [u,v]:=by
 unfold pH at h;rw[zar] at h;cases e:(l.zip m)[i]? with
 |none=>rw[e] at h;cases h
 |some p =>
  rw[e] at h;cases h;obtain⟨u,j⟩:=p;rw[List.getElem?_zip_eq_some] at e;exact⟨u,j,e.1,e.2,rfl⟩
end
theorem zS {α:Type}(x:α):(some (some x)).join=some x:=rfl
noncomputable def abc:List Tr->Cs->R Ax:=λts S1=>match ts with
 |[t,u]=>(iL t S1).az λs S2=>(iL u S2).az λs' S3=>.ok ⟨pH s.items s'.items,λS=>s.iH S/\s'.iH S⟩ S3
 |_=>.ay
theorem MS {t u:Tr}{S:Cs}:abc [t,u] S=(iL t S).az λs S2=>(iL u S2).az λs' S3=>.ok ⟨pH s.items s'.items,λS=>s.iH S/\s'.iH S⟩ S3:=rfl
theorem ni {iH:Cs->Prop}{b:Tr->En->Cs->R En}{f:Sm}{l:List Tr}{τ:En}{S:Cs}{Z:RS}(e:jL iH b f l τ S=Z)(I:Nat->En->Cs->Prop)(hc:∀i τ S,I i τ S->iH S)(h0:I 0 τ S)(hs:∀i t τ S,l[i]? = some t->I i τ S->∃iU S2,((b t τ S).bU f = .nx iU S2\/(b t τ S).bU f = .ct iU S2)/\I (i+1) iU S2):∃lQ S',I l.length lQ S'/\Z = .nx lQ S':=by
 have key:∀(l:List Tr) (n:Nat) (τ:En) (S:Cs),(∀i t τ S,l[i]? = some t->I (n+i) τ S->∃iU S2,((b t τ S).bU f = .nx iU S2\/(b t τ S).bU f = .ct iU S2)/\I (n+i+1) iU S2)->I n τ S->∃lQ S',I (n+l.length) lQ S'/\jL iH b f l τ S = .nx lQ S':=by
  intro l;induction l with
  |nil=>intro n τ S h h0;exact⟨τ,S,h0,by unfold jL;rw[if_pos (hc n τ S h0)]⟩
  |cons t r ih =>
   intro n τ S h h0;obtain⟨iU,S2,e,h2⟩:=h 0 t τ S rfl h0;obtain⟨τ3,S3,h3,e3⟩:=ih (n+1) iU S2 (λi u τ S hu hI=>by
    have:=h (i+1) u τ S (by simpa using hu) (by rw[show n+(i+1)=n+1+i by omega];exact hI)
    rw[show n+(i+1)+1=n+1+i+1 by omega] at this
    exact this) h2
   refine⟨τ3,S3,by rw[zav,show n+(r.length+1)=n+1+r.length by omega];exact h3,?_⟩
   conv=>lhs;unfold jL
   rw[if_pos (hc n τ S h0)];cases hb:b t τ S with
   |ok e_ S1 =>
    rw[hb,R.fN] at e;rw[R.fN];rcases e with e|e
    ·rw[e,Mu,e3]
    ·rw[e,agM,e3]
   |ex n S1=>rw[hb,R.Ru] at e;rcases e with e|e<;>cases e
   |ay=>rw[hb,R.A6] at e;rcases e with e|e<;>cases e
 obtain⟨lQ,S',h,e2⟩:=key l 0 τ S (λi t τ S ht hI=>by rw[zcP] at hI ⊢;exact hs i t τ S ht hI) h0
 rw[zcP] at h;exact⟨lQ,S',h,by rw[<-e,e2]⟩
theorem xO {iH:Cs->Prop}{b:Tr->En->Cs->R En}{f:Em}(I:Nat->En->List Tr->Cs->Prop)(hc:∀i τ bO S,I i τ bO S->iH S):∀(l:List Tr) (n:Nat) (τ:En) (bO:List Tr) (S:Cs),
  (∀i t τ bO S,l[i]? = some t->I (n+i) τ bO S->∃e_ u S3,b t τ S = .ok e_ S/\f e_ S = .ok u S3/\I (n+i+1) e_ (bO++[u]) S3)->bO.length+l.length<=1000000->I n τ bO S->∃lQ Ep S',I (n+l.length) lQ Ep S'/\cS iH b fY f l τ bO S = .ok Ep S'
 |[],n,τ,bO,S,h,hl,h0=>⟨τ,bO,S,h0,ud (hc n τ bO S h0)⟩
 |t::r,n,τ,bO,S,h,hl,h0=>by
  obtain⟨e_,u,S3,e1,e2,h2⟩:=h 0 t τ bO S rfl h0;have Ig:bO.length+1+r.length<=1000000:=by simp at hl;omega
  obtain⟨τ3,ami,S4,h3,e3⟩:=xO I hc r (n+1) e_ (bO++[u]) S3 (λi u τ bO S hu hI=>by
   have:=h (i+1) u τ bO S (by simpa using hu) (by rw[show n+(i+1)=n+1+i by omega];exact hI)
   rw[show n+(i+1)+1=n+1+i+1 by omega] at this
   exact this) (by simp;omega) h2
  refine⟨τ3,ami,S4,by rw[zav,show n+(r.length+1)=n+1+r.length by omega];exact h3,?_⟩
  rw[qV (hc n τ bO S h0),e1,ic,R.dX];show (jv (R.ok true S)).az _=_
  rw[ic,R.dX,if_pos rfl,e2,ic,R.dX,if_pos (zao (by omega:bO.length<1000000) (by decide)),e3]
theorem nj {iH:Cs->Prop}{b:Tr->En->Cs->R En}{f:Em}{l:List Tr}{τ:En}{S:Cs}{Z:R (List Tr)}(e:cS iH b fY f l τ [] S=Z)(I:Nat->En->List Tr->Cs->Prop)(hc:∀i τ bO S,I i τ bO S->iH S)(h0:I 0 τ [] S)(hl:l.length<=1000000)
  (hs:∀i t τ bO S,l[i]? = some t->I i τ bO S->∃e_ u S3,b t τ S = .ok e_ S/\f e_ S = .ok u S3/\I (i+1) e_ (bO++[u]) S3):∃lQ Ep S',I l.length lQ Ep S'/\Z = .ok Ep S':=by
 obtain⟨lQ,Ep,S',h,e2⟩:=xO I hc l 0 τ [] S (λi t τ bO S ht hI=>by rw[zcP] at hI ⊢;exact hs i t τ bO S ht hI) (by simpa using hl) h0
 rw[zcP] at h;exact⟨lQ,Ep,S',h,by rw[<-e,e2]⟩
noncomputable def oz (S S':Cs):Prop:=∃J,S'=S++J
theorem oz.refl (S:Cs):oz S S:=⟨[],by simp⟩
theorem oz.trans {S S1 S2:Cs}(h:oz S S1)(g:oz S1 S2):oz S S2:=by
 obtain⟨J,rfl⟩:=h;obtain⟨J2,rfl⟩:=g;exact⟨J++J2,by simp⟩
theorem oz.rJ {S S':Cs}(h:oz S S')(X:Cs):oz S (S'++X):=h.trans ⟨X,rfl⟩
theorem oz.get {S S':Cs}(h:oz S S'){i:Nat}{c:Ce}(e:S[i]? = some c):S'[i]? = some c:=by
 obtain⟨J,rfl⟩:=h;rw[zaj (zae.mp e).1];exact e
theorem pJ {S:Cs}{i:Nat}{c:Ce}(e:S[i]? = some c)(X:Cs):(S++X)[i]? = some c:=(oz.rJ (oz.refl S) X).get e
theorem Es {S:Cs}{i:Nat}{c:Ce}(e:S[i]? = some c):i<S.length:=(zae.mp e).1
theorem Et {S:Cs}{i j:Nat}{c d:Ce}(e:S[i]? = some c)(h:j≠i):(S.set j d)[i]? = some c:=by rw[zaA h];exact e
theorem ug {S:Cs}{i:Nat}{d:Ce}(h:i<S.length):(S.set i d)[i]? = some d:=zaH h
end L2
namespace L2
open PySem PySem.Spec PyProof.Rows
section
variable {K:W.Frag}{cl:Str->Addr}{k j0 n:Nat}{X:Cx}{g B:Addr}{fd:FuncData}{ps:List Str}{q:Fn}{x y nn fn cB:Str}{xp p cp ap np yp np2 bp hp pos:Pos}{e:Expr}{es:List Expr}{fr:En->Cs->R (List Tr)}{i j l:Nat}{cs:List Str}
 {U0 q':Str} {N':Addr} {U1:List Value} {qR:Bool} {U3:List Str} {A1:List Value} {U4:Bool} {A2:Option Bool} {CY:Option Addr} {j1 j2 j3 j4 j5:Option Value} {mD:String}
end
noncomputable def ahm (K:W.Frag)(neg:Bool):R2:=λx y H Q=>∃a b xs ys,x = .ref a/\y = .ref b/\i6 K H a xs/\i6 K H b ys/\xs.length≠ys.length/\Q (.bl neg) H
theorem MT (hu:X.A.units<cLine):jQ X (compareOp .Eq) (ahm X.K false):=by
 intro ah s σ H x y v u Q I rx ry h;obtain⟨a,b,xs,ys,rfl,rfl,hp,hq,hn,k⟩:=h;cases rx;cases ry;obtain⟨aH,r1,p1,_⟩:=I.list hp;obtain⟨dZ,r2,p2,_⟩:=I.list hq;have l1:=r1.length;have l2:=r2.length;exact SeqAt.eq_list_lengthsAt p1.isList p2.isList (by simp;omega) hu ⟨.bl false,H,I,rfl,k⟩
theorem MU (hu:X.A.units<cLine):jQ X (compareOp .NotEq) (ahm X.K true):=by
 intro ah s σ H x y v u Q I rx ry h;obtain⟨a,b,xs,ys,rfl,rfl,hp,hq,hn,k⟩:=h;cases rx;cases ry;obtain⟨aH,r1,p1,_⟩:=I.list hp;obtain⟨dZ,r2,p2,_⟩:=I.list hq;have l1:=r1.length;have l2:=r2.length;have h:=SeqAt.RcNeAt.lists_lengths p1.isList p2.isList (by simp;omega) (show X.A.units<cLine from hu)
 exact h X.prog X.w _ _ ⟨.bl true,H,I,rfl,k⟩
noncomputable def Bx (neg:Bool):Tr->Tr->Cs->R Tr:=λt1 t2 S=>match vW S t1,vW S t2 with
 |some l,some m=>if l.length=m.length then cE neg t1 t2 S else .ok (.bl neg) S
 |_,_=>.ay
theorem abd {neg:Bool}:nh G k (compareOp (if neg then .NotEq else .Eq)) (Bx neg):=.mk<|λX o ah s σ H x y v u Q I rx ry cZ=>by
 obtain⟨w,S,t1,t2,hr,r1,r2,q⟩:=cZ;unfold Bx at q;split at q
 ·rename_i l m e1 e2
  split at q
  ·exact (L_ (G:=G) (k:=k) (neg:=neg)).ku X o ah s σ H x y v u Q I rx ry ⟨w,S,t1,t2,hr,r1,r2,q⟩
  ·rename_i hn
   obtain⟨a,xs,ea,sx,MV⟩:=iG hr r1 e1;obtain⟨b,ys,eb,sy,Vn⟩:=iG hr r2 e2;rw[<-o.K] at sx sy;have q:=q w H _ (.refl w) hr gq
   have hl:xs.length≠ys.length:=by rw[MV.len,Vn.len];exact hn
   cases neg with
   |true=>exact MU (zbT (zaZ _ _) o.hu) ah s σ H x y v u Q I rx ry ⟨a,b,xs,ys,ea,eb,sx,sy,hl,q⟩
   |false=>exact MT (zbT (zaZ _ _) o.hu) ah s σ H x y v u Q I rx ry ⟨a,b,xs,ys,ea,eb,sx,sy,hl,q⟩
 ·exact q.elim
theorem ahn:nh G k (compareOp .Eq) (Bx false):=abd (neg:=false)
noncomputable def MW:Tr->Tr->Cs->R Tr:=λt1 t2 S=>match D0 S t1,t2 with
 |some l,.int n=>if 0<=n/\n<1000000/\l.length * n.toNat<=1000000 then .ok (.ls (List.replicate n.toNat l).flatten) S else .ay
 |_,_=>.ay
theorem bF.rep {w:Wd}{l:List Tr}{xs:List V}(h:bF w l xs):∀n:Nat,bF w (List.replicate n l).flatten (List.replicate n xs).flatten
 |0=>.nil
 |n+1=>by
  rw[zay,zay,zcf,zcf];exact h.rJ (bF.rep h n)
theorem aho:nh G k (binaryOp .Mult) MW:=.mk<|λX o ah s σ H x y v u Q I rx ry dF=>by
 obtain⟨w,S,t1,t2,hr,r1,r2,q⟩:=dF;unfold MW at q;split at q
 ·rename_i l n e1
  split at q
  ·rename_i h
   obtain⟨a,xs,ea,sx,MV⟩:=qp hr r1 e1;have hm:(1000000:Nat)<=sizeLine:=by decide
   exact Zn ah s σ H x y v u Q I rx ry ⟨a,_,xs,ea,aK r2,sx,by omega,by omega,by rw[MV.len];omega,hr.jd (MV.rep _) rfl q⟩
  ·exact q.elim
 ·exact q.elim
noncomputable def qW:List Tr->Cs->R Ax:=λts S1=>match ts with
 |[t,u]=>(match Kf t,Kf u with
  |some l,some m=>.ok ⟨pH l m,λ_=>True⟩ S1
  |_,_=>abc [t,u] S1)
 |_=>.ay
noncomputable def qX (fr:En->Cs->R (List Tr)):En->Cs->R Ax:=λτ S=>(fr τ S).az qW
section
variable {G:Gx}{k:Nat}{X:Cx}{a b c o e tg:Expr}{es:List Expr}{fa fb f:Em}{fr:En->Cs->R (List Tr)}{pos p:Pos}
theorem SM (hK:X.K=G.K){σ:St}{H:Hp}{Q:It->Hp->Prop}(h:RV G (qX fr) σ H Q):Vm X.K (DS G fr) σ H Q:=by
 obtain⟨w,S,τ,hr,sl,q⟩:=h;refine⟨w,S,τ,hr,sl,(bg.az q).mono λxs H1 b9=>?_⟩
 obtain⟨w1,S1,ts,cW,bL,r1,_,q1⟩:=b9;unfold qW at q1;split at q1
 ·rename_i t u _
  split at q1
  ·rename_i l l' e1 e2
   obtain⟨x,y,rfl,rx,ry⟩:=r9 r1;obtain⟨p,xs,rfl,sq,R⟩:=gZ bL rx e1;obtain⟨p',xs',rfl,sq',R'⟩:=gZ bL ry e2;refine⟨true,p,p',xs,xs',rfl,by rw[hK];exact sq,by rw[hK];exact sq',q1 w1 H1 _ (.refl _) bL λw2 S2 H2 i hK2 hn iN hF dG hc=>?_⟩
   obtain⟨p2,ys,ep,sq2,R2⟩:=gZ dG (rx.tY hK2 hn iN hF) e1
   cases ep;obtain⟨p2',P9,ep',abe,R2'⟩:=gZ dG (ry.tY hK2 hn iN hF) e2
   cases ep';have SN:AX X.K true H2 p ys:=by rw[hK];exact sq2
   have Eu:AX X.K true H2 p' P9:=by rw[hK];exact abe
   refine⟨λt et=>?_,λhi=>?_⟩
   ·obtain⟨u1,u2,eu1,eu2,rfl⟩:=pI et
    obtain⟨v1,ev1,rv1⟩:=R2.get eu1;obtain⟨v2,ev2,rv2⟩:=R2'.get eu2;refine⟨⟨ys,P9,v1,v2,SN,Eu,ev1,ev2⟩,λy H3 cZ=>?_⟩
    obtain⟨T,z1,z2,hT,ey,eH,hz1,hz2⟩:=cZ;have h1:=hz1 ys SN;have h2:=hz2 P9 Eu;rw[ev1] at h1;rw[ev2] at h2;cases h1;cases h2;subst ey;subst eH;obtain⟨h3,i7⟩:=dG.ZT hT (.gp [v1,v2])
    refine⟨_,i7,h3,?_⟩
    unfold RT;exact⟨T,_,rfl,av,.cons (RT.mono i7 _ _ rv1) (.cons (RT.mono i7 _ _ rv2) .nil)⟩
   ·have hi:i=(pH l l').length:=hi
    have hz:(pH l l').length=min l.length l'.length:=by simp[pH]
    rw[hz] at hi;by_cases hl:l.length<=l'.length
    ·exact .inl ⟨ys,SN,by rw[R2.len,hi];omega⟩
    ·exact .inr ⟨ys,P9,SN,by rw[R2.len,hi];omega,Eu,by rw[R2'.len,hi];omega⟩
  ·rw[MS] at q1
   obtain⟨x,y,rfl,rx,ry⟩:=r9 r1;cases e:iL t S1 with
   |ok s S2 =>
    rw[e] at q1;obtain⟨rfl,p,l,rfl,⟨xs,sq,_⟩,ei,rB⟩:=zy bL rx e
    rw[R.dX] at q1;cases e':iL u S2 with
    |ok s' S3 =>
     rw[e',R.dX] at q1;obtain⟨rfl,p',l',rfl,⟨xs',sq',_⟩,ei',ahu⟩:=zy bL ry e'
     refine⟨false,p,p',xs,xs',rfl,by rw[hK];exact sq,by rw[hK];exact sq',q1 w1 H1 _ (.refl _) bL λw2 S2 H2 i hK2 hn iN hF dG hc=>?_⟩
     obtain⟨ys,sq2,R2⟩:=rB w2 S2 H2 hK2 hn iN hF dG hc.1;obtain⟨P9,abe,R2'⟩:=ahu w2 S2 H2 hK2 hn iN hF dG hc.2;have SN:AX X.K false H2 p ys:=by rw[hK];exact sq2
     have Eu:AX X.K false H2 p' P9:=by rw[hK];exact abe
     refine⟨λt et=>?_,λhi=>?_⟩
     ·obtain⟨u1,u2,eu1,eu2,rfl⟩:=pI et
      rw[ei] at eu1;rw[ei'] at eu2;obtain⟨v1,ev1,rv1⟩:=R2.get eu1;obtain⟨v2,ev2,rv2⟩:=R2'.get eu2;refine⟨⟨ys,P9,v1,v2,SN,Eu,ev1,ev2⟩,λy H3 dF=>?_⟩
      obtain⟨T,z1,z2,hT,ey,eH,hz1,hz2⟩:=dF;have h1:=hz1 ys SN;have h2:=hz2 P9 Eu;rw[ev1] at h1;rw[ev2] at h2;cases h1;cases h2;subst ey;subst eH;obtain⟨h3,i7⟩:=dG.ZT hT (.gp [v1,v2])
      refine⟨_,i7,h3,?_⟩
      unfold RT;exact⟨T,_,rfl,av,.cons (RT.mono i7 _ _ rv1) (.cons (RT.mono i7 _ _ rv2) .nil)⟩
     ·have hi:i=(pH s.items s'.items).length:=hi
      have hz:(pH s.items s'.items).length=min l.length l'.length:=by rw[ei,ei'];simp[pH]
      rw[hz] at hi;by_cases hl:l.length<=l'.length
      ·exact .inl ⟨ys,SN,by rw[R2.len,hi];omega⟩
      ·exact .inr ⟨ys,P9,SN,by rw[R2.len,hi];omega,Eu,by rw[R2'.len,hi];omega⟩
    |ex n S2=>exact absurd e' zz
    |ay=>rw[e',R.zk] at q1;exact q1.elim
   |ex n S2=>exact absurd e zz
   |ay=>rw[e,R.zk] at q1;exact q1.elim
 ·exact q1.elim
theorem Gu {tp:Pos}{elts:List Expr}{x1}(hm:X.mg "zip"=none)(ha:wI G k X [a,b] fr)(hg:Gl X "zip" := by rfl)(hs:dN a=false:=by rfl)(J6:dN b=false:=by rfl):RW G k X (.Tuple elts x1 tp) (.Call (.Name "zip" p) [a,b] [] pos) (qX fr):=.mk<|λox=>(SK hg hm (ha ox) (by rw[di hs,di J6];rfl) (by rw[di J6];rfl)).wk λσ H Q h=>SM ox.K h
end
theorem ahv {fr:En->Cs->R (List Tr)}{τ:En}{S:Cs}:qX fr τ S=(fr τ S).az qW:=rfl
end L2
namespace L2
open PySem PySem.Spec PyProof.Rows
noncomputable def rR (l m:List Tr):Bool:=decide (l.length=m.length) && (l.zip m).all λz=>P6 z.1 z.2
theorem Gv {w:Wd}:∀{l m:List Tr} {xs ys:List V},l.all dQ=true->m.all dQ=true->bF w l xs->bF w m ys->((xs.zip ys).all λz=>qP z.1 z.2)=((l.zip m).all λz=>P6 z.1 z.2)
 |[],m,xs,ys,_,_,r1,_=>by rw[r1.bP];rfl
 |t::l,[],xs,ys,_,_,_,r2=>by rw[r2.bP,List.zip_nil_right,List.zip_nil_right];rfl
 |t::l,u::m,xs,ys,f1,f2,r1,r2=>by
  obtain⟨x,xs',rfl,h1,h2⟩:=r1.bh;obtain⟨y,P9,rfl,h3,h4⟩:=r2.bh;rw[zaG,zcl] at f1 f2;rw[zbV,zbV,zaG,zaG,Gv f1.2 f2.2 h2 h4,Mc f1.1 f2.1 h1 h3]
theorem Gw {w:Wd}{l m:List Tr}{xs ys:List V}(fl:l.all dQ=true)(fm:m.all dQ=true)(r1:bF w l xs)(r2:bF w m ys):(decide (xs.length=ys.length) && (xs.zip ys).all λz=>qP z.1 z.2)=rR l m:=by
 unfold rR;rw[Gv fl fm r1 r2,r1.len,r2.len]
noncomputable def Ja (neg:Bool):Tr->Tr->Cs->R Tr:=λt1 t2 S=>match vW S t1,vW S t2 with
 |some l,some m=>if l.all dQ=true/\m.all dQ=true then .ok (.bl (if neg=true then !rR l m else rR l m)) S else .ay
 |_,_=>.ay
theorem ahw {G:Gx}{k:Nat}:nh G k (compareOp .Eq) (Ja false):=.mk<|λX o ah s σ H x y v u Q I rx ry dF=>by
 obtain⟨w,S,t1,t2,hr,r1,r2,q⟩:=dF;unfold Ja at q;split at q
 ·rename_i l m e1 e2
  split at q
  ·rename_i h
   obtain⟨a,xs,ea,sx,MV⟩:=iG hr r1 e1;obtain⟨b,ys,eb,sy,Vn⟩:=iG hr r2 e2;rw[<-o.K] at sx sy;have q:=q w H _ (.refl w) hr gq
   refine Zu (zbT (zaZ _ _) o.hu) ah s σ H x y v u Q I rx ry ⟨a,b,xs,ys,ea,eb,sx,sy,g9 h.1 MV,g9 h.2 Vn,?_⟩
   have e:=Gw h.1 h.2 MV Vn;show Q (.bl (if false=true then _ else _)) H
   rw[e];exact q
  ·exact q.elim
 ·exact q.elim
section
variable {prog:Program}{w:World}{A:Around}{R:Result->Shared->Prop}{I:Addr}{fp wr:List Addr}{G:Array GenState->Array GenState->Prop}{n:Nat}{P:Nat->Value->Prop}{St:Nat->Shared->Prop}
end
section
variable {prog:Program}{w:World}{A:Around}{E:Value->Shared->Prop}{s:Shared}
end
end L2
namespace L2
open PySem PySem.Spec PyProof.Rows
end L2
namespace L2
open PySem PySem.Spec PyProof.Rows
section
variable {X:Cx}{k:Nat}{g B:Addr}{fd:FuncData}{ps:List Str}{sp:Sp}{e:Expr}{es:List Expr}{t:TA}{n fn cB:Str}{l:Nat}{p cp np ep hp pos:Pos}{lH:List Stmt}{rP:Stmt}{ts:TS}
 {U0 q':Str} {N':Addr} {U1 Ka:List Value} {qR:Bool} {U3:List Str} {A1:List Value} {U4:Bool} {A2:Option Bool} {CY:Option Addr} {j0 j1 j2 j3 j5:Option Value} {mD:String}
end
section
variable {K:W.Frag}{cl:Str->Addr}{k j n:Nat}{X:Cx}{g B:Addr}{fd:FuncData}{ps:List Str}{q:Fn}{cB nn fn:Str}{p cp np ep hp pos:Pos}{e:Expr}{es:List Expr}{fr:En->Cs->R (List Tr)}{lH:List Stmt}{rP:Stmt}{sh:Sm}{l:Nat}{cs:List Str}
end
noncomputable def keysOf:List Tr->Option (List dz)
 |[]=>some []
 |t::r=>(match gU t,keysOf r with|some k,some l=>some (k::l)|_,_=>none)
noncomputable def MX:Tr->Option (List dz)|.tp l=>keysOf l|_=>none
noncomputable def MY (S:Cs)(t1 t2:Tr):Option (Option Tr):=match t1 with
 |.hd n=>(match S[n]? with
  |some (.gQ l)=>(gU t2).map λq=>aP q l
  |some (.wF l)=>(gU t2).map λq=>aP q l
  |some (.P4 l)=>(MX t2).map λq=>aP q l
  |some (.DR l)=>(MX t2).map λq=>aP q l
  |_=>none)
 |_=>none
theorem xP:∀{l:List Tr} {q:List dz} {xs:List V},keysOf l=some q->bF w l xs->xs=q.map kV
 |[],q,xs,e,r=>by cases e;rw[r.bP];rfl
 |t::l,q,xs,e,r=>by
  obtain⟨x,r',rfl,h1,h2⟩:=r.bh;unfold keysOf at e;split at e
  ·rename_i k1 l1 e1 e2
   cases e;rw[gD e1 h1,xP e2 h2];rfl
  ·cases e
theorem BA (e:MX t=some q)(r:RT w t v):∃p,v = .ref p/\w.F p=some (.gp (q.map kV)):=by
 cases t with
 |tp l =>
  unfold RT at r;obtain⟨p,xs,rfl,h,r⟩:=r;rw[xP e r] at h;exact⟨p,rfl,h⟩
 |_=>cases e
noncomputable def Vo (w:Wd)(ot:Option Tr)(ov:Option V):Prop:=match ot with|some t=>∃v,ov=some v/\RT w t v|none=>ov=none
theorem nk {κ:Type}[DecidableEq κ]{l:List (κ × Tr)}{m:List (κ × V)}(r:RK w l m)(j:κ):Vo w (aP j l) (lO m j):=by
 obtain⟨h1,h2⟩:=mJ (k:=j) r
 cases e:aP j l with
 |none=>exact h2 e
 |some t=>exact h1 t e
theorem SO {S:Cs}{H:Hp}(hr:HR G w S H)(r1:RT w t1 x)(r2:RT w t2 y)(e:MY S t1 t2=some ot):∃p ov,x = .ref p/\nJ H p y ov/\Vo w ot ov:=by
 unfold MY at e;split at e
 ·rename_i n
  have hx:=r1.cT.2;split at e
  ·rename_i l en
   rw[zbQ] at e;obtain⟨q,ek,rfl⟩:=e;obtain⟨aJ,h1,h2⟩:=hr.cell _ _ en;exact⟨_,_,hx,.inl ⟨aJ,q,.inl h1,gD ek r2,rfl⟩,nk h2 q⟩
  ·rename_i l en
   rw[zbQ] at e;obtain⟨q,ek,rfl⟩:=e;obtain⟨ob,aJ,h1,h2⟩:=hr.cell _ _ en;exact⟨_,_,hx,.inl ⟨aJ,q,.inr ⟨ob,hr.sub _ _ h1⟩,gD ek r2,rfl⟩,nk h2 q⟩
  ·rename_i l en
   rw[zbQ] at e;obtain⟨q,ek,rfl⟩:=e;obtain⟨aJ,h1,h2⟩:=hr.cell _ _ en;obtain⟨p,ey,hp⟩:=BA ek r2;exact⟨_,_,hx,.inr ⟨aJ,q,p,.inl h1,ey,hr.sub _ _ hp,rfl⟩,nk h2 q⟩
  ·rename_i l en
   rw[zbQ] at e;obtain⟨q,ek,rfl⟩:=e;obtain⟨ob,aJ,h1,h2⟩:=hr.cell _ _ en;obtain⟨p,ey,hp⟩:=BA ek r2;exact⟨_,_,hx,.inr ⟨aJ,q,p,.inr ⟨ob,hr.sub _ _ h1⟩,ey,hr.sub _ _ hp,rfl⟩,nk h2 q⟩
  ·cases e
 ·cases e
noncomputable def MZ:Tr->Tr->Cs->R Tr:=λt1 t2 S=>match MY S t1 t2 with|some (some t)=>.ok t S|_=>.ay
theorem abg (ha:TV G k X a fa)(hb:TV G k X b fb)(hs:QG b:=by intro _ _;rfl):TV G k X (.Subscript a b pos) (ai MZ fa fb):=.mk<|λo=>(FO o.hu1 (ha o) (hb o) hs).wk λσ H Q h=>by
 obtain⟨w,S,τ,hr,sl,q⟩:=nX h;refine⟨w,S,τ,hr,sl,q.mono λx H1 ⟨w1,S1,e_,bL,DP,q1⟩=>⟨w1,S1,e_,bL,DP,q1.mono λy H2 mj=>?_⟩⟩
 obtain⟨w2,S2,t1,t2,dG,r1,r2,q2⟩:=mj;unfold MZ at q2;split at q2
 ·rename_i t et
  obtain⟨p,ov,ex,g,v,rfl,rv⟩:=SO dG r1 r2 et;exact⟨p,v,ex,g,q2 w2 H2 v (.refl _) dG rv⟩
 ·exact q2.elim
theorem HR.M0 (h:HR G w S H){c c':Ce}(e:S[i]? = some c)(hc:c.fz=false)(Qe:c'.fz=true)(ok:∀w':Wd,w.le w'->w'.F (w.ρ i)=some o'->bE G w' (br H (w.ρ i) o') (w.ρ i) c'):
  HR G {w with F:=br w.F (w.ρ i) o' } (S.set i c') (br H (w.ρ i) o')/\w.le {w with F:=br w.F (w.ρ i) o' }:=by
 have hi:=(zae.mp e).1
 have li:eU S i:=⟨c,e,hc⟩
 have hF:w.F (w.ρ i)=none:=by rw[h.F];unfold Fz;rw[if_pos (.inl ⟨i,li,rfl⟩)]
 have le:w.le {w with F:=br w.F (w.ρ i) o' }:=⟨rfl,zah _,λ_ _=>rfl,λb u eb=>kH hF eb,rfl⟩
 have lv:∀j,eU (S.set i c') j->eU S j/\j≠i:=λj jc=>by
  obtain⟨d,ed,hd⟩:=jc;by_cases hj:i=j
  ·subst hj
   rw[zaH hi] at ed;cases ed;rw[Qe] at hd;cases hd
  ·rw[zaA hj] at ed
   exact⟨⟨d,ed,hd⟩,λz=>hj z.symm⟩
 have lv2:∀j,eU S j->j≠i->eU (S.set i c') j:=λj ⟨d,ed,hd⟩ hj=>⟨d,by rw[zaA (λz=>hj z.symm)];exact ed,hd⟩
 refine⟨⟨h.K,by simp[h.n],?_,λj d ej=>?_,λa b la lb=>h.inj a b (lv a la).1 (lv b lb).1,zj h.hid (h.jZ i li),λj lj=>h.jZ j (lv j lj).1,h.hl⟩,le⟩
 ·show br w.F (w.ρ i) o'=Fz w.ρ w.hid (S.set i c') (br H (w.ρ i) o')
  funext b
  unfold Fz;by_cases hb:b=w.ρ i
  ·subst hb
   rw[av,if_neg,av];rintro (⟨j,lj,z⟩|z)
   ·exact (lv j lj).2 (h.inj j i (lv j lj).1 li z)
   ·exact z (h.jZ i li)
  ·rw[aq hb,aq hb,h.F]
   unfold Fz;have U8:(∃j,eU (S.set i c') j/\w.ρ j=b)↔∃j,eU S j/\w.ρ j=b:=⟨λo8=>by obtain⟨j,lj,z⟩:=o8;exact⟨j,(lv j lj).1,z⟩,λkJ=>by obtain⟨j,lj,z⟩:=kJ;exact⟨j,lv2 j lj (λq=>hb (by rw[<-z,q])),z⟩⟩
   by_cases hx:(∃j,eU S j/\w.ρ j=b)\/w.hid b≠none
   ·rw[if_pos hx,if_pos (hx.imp U8.mpr λz=>z)]
   ·rw[if_neg hx,if_neg (λz=>hx (z.imp U8.mp λz=>z))]
 ·by_cases hj:i=j
  ·subst hj
   rw[zaH hi] at ej;cases ej;exact ok _ le av
  ·rw[zaA hj] at ej
   cases hd:d.fz with
   |true=>exact bE.LQ le hd (h.cell j d ej)
   |false =>
    refine (h.cell j d ej).mono le λu eu=>?_
    rw[aq λz=>hj (h.inj i j li ⟨d,ej,hd⟩ z.symm)]
    exact eu
noncomputable def M1:dz->Tr|.inl i=>.int i|.inr x=>.str x
noncomputable def iD:Tr->Cs->R Ax:=λt S=>match t with
 |.hd n=>(match S[n]? with
  |some (.gQ l)=>.ok ⟨l.map λp=>M1 p.1,λ_=>True⟩ (S.set n (.wF l))
  |some (.wF l)=>.ok ⟨l.map λp=>M1 p.1,λ_=>True⟩ S
  |some (.P4 l)=>.ok ⟨l.map λp=>.tp (p.1.map M1),λ_=>True⟩ (S.set n (.DR l))
  |some (.DR l)=>.ok ⟨l.map λp=>.tp (p.1.map M1),λ_=>True⟩ S
  |_=>.ay)
 |_=>.ay
theorem abh (q:dz):RT w (M1 q) (kV q):=by
 cases q with
 |inl i=>exact d_
 |inr x=>exact kI
theorem zU:∀q:List dz,bF w (q.map M1) (q.map kV)
 |[]=>.nil
 |k::r=>.cons (abh k) (zU r)
theorem zV {a:Addr}(hF:w.F a=some (.p_ ob u))(R:bF w l ks):aaf G w ⟨l,λ_=>True⟩ (Itd a ob u ks):=λw1 S1 H1 i hK hn iN hF1 bL _=>by
 have ha:=bL.sub _ _ (hF1 _ _ hF)
 have R1:=R.tY hK hn iN hF1;refine⟨λt et=>?_,λhi=>⟨ha,by rw[R.len,hi];exact zah _⟩⟩
 obtain⟨v,ev,rv⟩:=R1.get et;refine⟨⟨ha,(zae.mp ev).1⟩,λx H2 ⟨e2,ex⟩=>?_⟩
 subst e2;rw[ev] at ex;cases ex;exact⟨w1,.refl _,bL,rv⟩
theorem Vp (r:RK w l aJ):bF w (l.map λp=>M1 p.1) (aJ.map λp=>kV p.1):=by
 have e1:(l.map λp=>M1 p.1)=(l.map Prod.fst).map M1:=by rw[zbz];rfl
 have e2:(aJ.map λp=>kV p.1)=(aJ.map Prod.fst).map kV:=by rw[zbz];rfl
 rw[e1,e2,r.1];exact zU _
theorem M3 {H:Hp}{S:Cs}(Iu:∀b xs,H b=some (.gp xs)->w.F b=some (.gp xs)):∀{aJ:List (List dz×V)} {ks:List V},Paired (λ(p:List dz×V) (x:V)=>∃b,x = .ref b/\H b=some (.gp (p.1.map kV))) aJ ks->bF w ((aJ.map Prod.fst).map λq=>.tp (q.map M1)) ks
 |_,_,.nil=>.nil
 |_,_,.cons ⟨b,ex,hb⟩ t=>.cons (by unfold RT;exact⟨b,_,ex,Iu _ _ hb,zU _⟩) (M3 (S:=S) Iu t)
theorem HR.ahx (h:HR G w S H){b:Addr}(hb:H b=some (.gp xs)):w.F b=some (.gp xs):=by
 rw[h.F];unfold Fz;rw[if_neg,hb];rintro (⟨i,⟨c,e,n⟩,z⟩|z)
 ·have hc:=h.cell i c e
  rw[z] at hc;cases c with
  |aV l=>obtain⟨_,q,_⟩:=hc;rw[hb] at q;cases q
  |gQ l=>obtain⟨_,q,_⟩:=hc;rw[hb] at q;cases q
  |P4 l=>obtain⟨_,q,_⟩:=hc;rw[hb] at q;cases q
  |fE c l=>obtain⟨_,_,q,_⟩:=hc;rw[hb] at q;cases q
  |wD c l=>obtain⟨_,_,_,q,_⟩:=hc;rw[hb] at q;cases q
  |tF=>cases n
  |wF l=>cases n
  |DR l=>cases n
 ·cases e:w.hid b with
  |none=>exact z e
  |some u =>
   have:=h.hid b u e
   rw[hb] at this;cases this;exact h.hl b xs e
theorem SQ (ha:TV G k X a fa):RW G k X tg a (tZ iD fa):=.mk<|λox=>(Rp (ha ox)).wk λσ H Q h=>by
 obtain⟨w,S,τ,hr,sl,q⟩:=h;refine⟨w,S,τ,hr,sl,(bg.az q).mono λx H1 b9=>?_⟩
 obtain⟨w1,S1,t1,cW,bL,r1,_,q1⟩:=b9;unfold iD at q1;split at q1
 ·rename_i n _
  have hx:=r1.cT.2;split at q1
  ·rename_i l en
   obtain⟨aJ,h1,h2⟩:=bL.cell _ _ en;refine⟨_,.dK aJ,hx,trivial,.inl ⟨h1,λob ks hk=>?_⟩⟩
   obtain⟨dG,eW⟩:=bL.M0 en rfl (c':=.wF l) rfl (o':=.p_ ob (.dK aJ)) (λw' le' hF=>⟨ob,aJ,hF,h2.mono le'⟩)
   cases (show ks=_ from hk)
   exact q1 _ _ _ eW dG (zV av (Vp (h2.mono eW)))
  ·rename_i l en
   obtain⟨ob,aJ,h1,h2⟩:=bL.cell _ _ en;refine⟨_,.dK aJ,hx,trivial,.inr ⟨ob,bL.sub _ _ h1,λks hk=>?_⟩⟩
   cases (show ks=_ from hk)
   exact q1 _ _ _ (.refl _) bL (zV h1 (Vp h2))
  ·rename_i l en
   obtain⟨aJ,h1,h2⟩:=bL.cell _ _ en;refine⟨_,.dT aJ,hx,trivial,.inl ⟨h1,λob ks hk=>?_⟩⟩
   obtain⟨dG,eW⟩:=bL.M0 en rfl (c':=.DR l) rfl (o':=.p_ ob (.dT aJ)) (λw' le' hF=>⟨ob,aJ,hF,h2.mono le'⟩)
   have R:=M3 (S:=S1) (w:={w1 with F:=br w1.F (w1.ρ n) (.p_ ob (.dT aJ))}) (λb xs hb=>eW.F _ _ (bL.ahx hb)) hk
   rw[h2.1,zbz] at R;exact q1 _ _ _ eW dG (zV av R)
  ·rename_i l en
   obtain⟨ob,aJ,h1,h2⟩:=bL.cell _ _ en;refine⟨_,.dT aJ,hx,trivial,.inr ⟨ob,bL.sub _ _ h1,λks hk=>?_⟩⟩
   have R:=M3 (S:=S1) (λb xs hb=>bL.ahx hb) hk
   rw[h2.1,zbz] at R;exact q1 _ _ _ (.refl _) bL (zV h1 R)
  ·exact q1.elim
 ·exact q1.elim
noncomputable def pK (H:Hp):List V->List (dz×V)->Prop
 |[],[]=>True
 |x::xs,(q,v)::r=>(∃a,x = .ref a/\H a=some (.gp [kV q,v]))/\pK H xs r
 |_,_=>False
theorem pK.len:∀{xs:List V} {r:List (dz×V)},pK H xs r->xs.length=r.length
 |[],[],_=>rfl
 |x::xs,(q,v)::r,h=>by simp[pK.len h.2]
 |[],_::_,h=>h.elim
 |_::_,[],h=>h.elim
theorem pK.get:∀{xs:List V} {r:List (dz×V)} {i:Nat} {x:V},pK H xs r->xs[i]? = some x->∃q v a,r[i]? = some (q,v)/\x = .ref a/\H a=some (.gp [kV q,v])
 |[],[],i,x,_,e=>by simp at e
 |y::xs,(q,v)::r,0,x,h,e=>by
  simp at e
  subst e;obtain⟨a,e1,e2⟩:=h.1;exact⟨q,v,a,rfl,e1,e2⟩
 |y::xs,(q,v)::r,i+1,x,h,e=>by simpa using pK.get (i:=i) h.2 (by simpa using e)
 |[],_::_,_,_,h,_=>h.elim
 |_::_,[],_,_,h,_=>h.elim
theorem Gy {r:List (dz×V)}(h:∀i q v,r[i]? = some (q,v)->(kv i).1=q/\bG v (kv i).2):∀n,n<=r.length->KV (gh [] (r.take n)) (tE kv n)
 |0,_=>.nil
 |n+1,hn=>by
  have ih:=Gy h n (by omega)
  have e:r.take (n+1)=r.take n++[r[n]'(by omega)]:=by rw[List.take_add_one,zac (by omega)];rfl
  obtain⟨e1,e2⟩:=h n (r[n]'(by omega)).1 (r[n]'(by omega)).2 (zac (by omega))
  rw[e];unfold gh tE;rw[List.foldl_append];show KV (kC (gh [] (r.take n)) (r[n]'(by omega)).1 (r[n]'(by omega)).2) (stored (tE kv n) (kv n).1 (kv n).2)
  rw[e1];exact ih.Dv _ e2
theorem Ew (hc:X.fM=true):ja X (.type "dict") (λxs H Q=>∃(p:Addr) (ys:List V) (r:List (dz×V)),xs=[.ref p]/\H p=some (.aV ys)/\pK H ys r/\r.length<=1000/\∀l,H l=none->Q (.ref l) (br H l (.dK (gh [] r)))):=by
 intro ah s σ H xs us Q I rr h;obtain⟨p,ys,r,rfl,hp,hr,hl,q⟩:=h;obtain⟨u,rfl,ru⟩:=lX rr;cases ru;obtain⟨aH,n,rv,e,_⟩:=I.aV hp;have cJ:aH.length=r.length:=by rw[<-rv.length,hr.len]
 -- wW aex,qb and qh of wW aoO
 have sM:∀i,i<r.length->∃(a:Addr) (kk vv:Value),aH[i]? = some (.ref a)/\ql s.heap a kk vv/\lV (r.getD i (.inl 0,.bw)).1 kk=true/\bG (r.getD i (.inl 0,.bw)).2 vv:=λi hi=>by
  have hy:i<ys.length:=by rw[hr.len];exact hi
  obtain⟨kq,v,a,e1,e2,e3⟩:=hr.get (zac hy)
  obtain⟨u,hu,ru⟩:=rv.get (zac hy)
  rw[e2] at ru;cases (show u=Value.ref a from ru)
  obtain⟨_,ws,yO,ob,ho,oc,m,od⟩:=(show bY X.prog X.w H s.heap a (.gp [kV kq,v]) from I.cg a _ e3)
  obtain⟨w1,w2,rfl,g1,g2⟩:=yO.two;have eg:r.getD i (.inl 0,.bw)=(kq,v):=by rw[zdI,e1];rfl
  rw[eg];exact⟨a,w1,w2,hu,⟨ob,m,ho,oc,od⟩,qM (P:=X.prog) (w:=X.w) g1,g2⟩
 let ad:Nat->Addr:=λi=>if h:i<r.length then (sM i h).choose else 0
 let kk:Nat->Value:=λi=>if h:i<r.length then (sM i h).choose_spec.choose else .none
 let kv:Nat->dz×Value:=λi=>if h:i<r.length then ((r.getD i (.inl 0,.bw)).1,(sM i h).choose_spec.choose_spec.choose) else (.inl 0,.none)
 have spec:∀i,i<r.length->aH[i]? = some (.ref (ad i))/\ql s.heap (ad i) (kk i) (kv i).2/\lV (kv i).1 (kk i)=true/\(kv i).1=(r.getD i (.inl 0,.bw)).1/\bG (r.getD i (.inl 0,.bw)).2 (kv i).2:=λi hi=>by
  have:=(sM i hi).choose_spec.choose_spec.choose_spec
  simp only[ad,kk,kv,dif_pos hi];exact⟨this.1,this.2.1,this.2.2.1,trivial,this.2.2.2⟩
 have hsz:aH.toArray.size=r.length:=by simp[cJ]
 refine rH (ad:=ad) (kk:=kk) (kv:=kv) (I.ok.hd hc) e (λi v hv=>?_) (λi hi=>(spec i (by omega)).2.2.1) (by omega) (λm hm=>(spec m (by omega)).2.1) λh' tk hS hk=>?_
 ·have hv:aH[i]? = some v:=by simpa using hv
  have hi:i<r.length:=by rw[<-cJ];exact (zae.mp hv).1
  rw[(spec i hi).1] at hv;exact (zas hv).symm
 ·rw[hsz] at hS
  have hkv:KV (gh [] r) (tE kv r.length):=by
   have:=Gy (kv:=kv) (r:=r) (λi kq v e1=>by
    have hi:i<r.length:=(zae.mp e1).1
    have eg:r.getD i (.inl 0,.bw)=(kq,v):=by rw[zdI,e1];rfl
    obtain⟨_,_,_,s4,s5⟩:=spec i hi;rw[eg] at s4 s5;exact⟨s4,s5⟩) r.length (zah _)
   rwa[zbr] at this
  refine⟨.ref s.heap.objs.size,_,I.ju (t':=tk) hk (zah _) (show bY X.prog X.w _ _ _ (.dK (gh [] r)) from ⟨?_,beq_eq_false_iff_ne.mpr (zbj (zaq I.big)),_,hkv,hS⟩),rfl,q _ (I.cg.fresh (zah _))⟩
  have h1:=zh kv r.length;rw[hkv.length];exact zai h1 (zai hl (by decide))
noncomputable def qC:List Tr->Option (List (dz×Tr))
 |[]=>some []
 |.tp [a,b]::r=>(match gU a,qC r with|some q,some l=>some ((q,b)::l)|_,_=>none)
 |_=>none
noncomputable def zW:List Tr->Cs->R Tr:=λts S=>match ts with
 |[t]=>(match D0 S t with|some l=>(match qC l with|some ps=>if ps.length<=1000 then .ok (.hd S.length) (S++[.gQ (eB [] ps)]) else .ay|none=>.ay)|none=>.ay)
 |_=>.ay
theorem xQ (hF:∀b o,w.F b=some o->H b=some o):∀{l:List Tr} {ps:List (dz×Tr)} {xs:List V},qC l=some ps->bF w l xs->∃r,pK H xs r/\RK w ps r
 |[],ps,xs,e,rt=>by cases e;rw[rt.bP];exact⟨[],trivial,.nil⟩
 |.tp [a,b]::l,ps,xs,e,rt=>by
  obtain⟨x,xs',rfl,h1,h2⟩:=rt.bh;unfold qC at e;split at e
  ·rename_i q l' e1 e2
   cases e;obtain⟨r,g1,g2⟩:=xQ hF e2 h2;unfold RT at h1;obtain⟨ad,ys,rfl,hy,ry⟩:=h1;obtain⟨y1,y2,rfl,ra,rb⟩:=r9 ry;rw[gD e1 ra] at hy;exact⟨(q,y2)::r,⟨⟨ad,rfl,hF _ _ hy⟩,g1⟩,.cons rb g2⟩
  ·cases e
 |.bw::_,_,_,e,_|.bl _::_,_,_,e,_|.int _::_,_,_,e,_|.str _::_,_,_,e,_|.ls _::_,_,_,e,_|.kt _::_,_,_,e,_|.kl _::_,_,_,e,_|.hd _::_,_,_,e,_=>by cases e
 |.tp []::_,_,_,e,_|.tp [_]::_,_,_,e,_|.tp (_::_::_::_)::_,_,_,e,_=>by cases e
theorem SR (hk:0<k:=by first|decide|omega):lE G k (.type "dict") zW:=.mk<|λX o ah s σ H xs us Q I rv b9=>by
 obtain⟨w,S,ts,hr,r,q⟩:=b9;unfold zW at q;split at q
 ·obtain⟨x,rfl,r1⟩:=fj r
  split at q
  ·rename_i l el
   split at q
   ·rename_i ps ep
    split at q
    ·rename_i hl
     obtain⟨a,ys,rfl,ha,ry⟩:=qp hr r1 el;obtain⟨rp,h1,h2⟩:=xQ hr.sub ep ry;refine Ew (o.fM hk) ah s σ H _ us Q I rv ⟨a,ys,rp,rfl,ha,h1,by rw[h2.len];exact hl,λp hp=>?_⟩
     obtain⟨dG,le⟩:=hr.II (c:=.gQ (eB [] ps)) hp (o:=.dK (gh [] rp)) rfl ⟨_,av,(RK.AR h2 .nil).mono (w.tG p)⟩
     refine q _ _ _ le dG ?_
     unfold RT;exact⟨by show S.length<w.n+1;rw[hr.n];exact zbh _,by show V.ref p=V.ref (if S.length=w.n then p else w.ρ S.length);rw[if_pos hr.n.symm]⟩
    ·exact q.elim
   ·exact q.elim
  ·exact q.elim
 ·exact q.elim
section
variable {a0 a1 a2 a3 a4 a5 a6 a7 a8 a9 AY a11 a12 a13 a14 a15 a16 a17 a18 a19:Option Tr}{x0 x1 x2 x3 x4 x5 x6 x7 x8 x9 iB iw x12 t y:Tr}{n0 n1 n2 n3 n4 n5 n6 n7 n8 n9 n10 n11 n12 n13 n14 n15 n16 c:Str}{r:En}{S:Cs}{sb:Sm}{q:Fn}{f:Tr->Cs->R β}{f':Tr->Cs->RS}{l:List Tr}{b:Bool}{z:Int}{g:Tr->Tr->Cs->R Tr}{fb:Em}{fr:En->Cs->R (List Tr)}{sc:Sm}{k n:Nat}{x:Str}{fs:List (Str×Tr)}
theorem sl {α:Type}{l:List α}(n:Nat)(h:l.length=n)(hn:n<=20:=by decide):l.length<=sizeLine:=by rw[h];exact zai hn (by decide)
theorem Vq {i:Int}(h:iS l i=some y):aZ (.tp l) (.int i) S = .ok y S:=by rw[MR];simp only[zo,h]
theorem ixl {i:Int}(h:iS l i=some y):aZ (.ls l) (.int i) S = .ok y S:=by rw[MR];simp only[zo,h]
theorem vV0:aa 0 (some t::r) S = .ok t S:=rfl
theorem bV0:(aa 0 (some t::r) S).az f=f t S:=rfl
theorem sV0:(aa 0 (some t::r) S).bU f'=f' t S:=rfl
theorem bN0:bI 0 t (a0::r) S = .ok (some t::r) S:=rfl
theorem bV1:(aa 1 (a0::some t::r) S).az f=f t S:=rfl
theorem sV1:(aa 1 (a0::some t::r) S).bU f'=f' t S:=rfl
theorem kS1:rQ 1 (a0::a1::r) t S = .nx (a0::some t::r) S:=rfl
theorem bN1:bI 1 t (a0::a1::r) S = .ok (a0::some t::r) S:=rfl
theorem vV2:aa 2 (a0::a1::some t::r) S = .ok t S:=rfl
theorem bV2:(aa 2 (a0::a1::some t::r) S).az f=f t S:=rfl
theorem sV2:(aa 2 (a0::a1::some t::r) S).bU f'=f' t S:=rfl
theorem kS2:rQ 2 (a0::a1::a2::r) t S = .nx (a0::a1::some t::r) S:=rfl
theorem bN2:bI 2 t (a0::a1::a2::r) S = .ok (a0::a1::some t::r) S:=rfl
theorem vV3:aa 3 (a0::a1::a2::some t::r) S = .ok t S:=rfl
theorem bV3:(aa 3 (a0::a1::a2::some t::r) S).az f=f t S:=rfl
theorem sV3:(aa 3 (a0::a1::a2::some t::r) S).bU f'=f' t S:=rfl
theorem kS3:rQ 3 (a0::a1::a2::a3::r) t S = .nx (a0::a1::a2::some t::r) S:=rfl
theorem bN3:bI 3 t (a0::a1::a2::a3::r) S = .ok (a0::a1::a2::some t::r) S:=rfl
theorem bV4:(aa 4 (a0::a1::a2::a3::some t::r) S).az f=f t S:=rfl
theorem sV4:(aa 4 (a0::a1::a2::a3::some t::r) S).bU f'=f' t S:=rfl
theorem kS4:rQ 4 (a0::a1::a2::a3::a4::r) t S = .nx (a0::a1::a2::a3::some t::r) S:=rfl
theorem bN4:bI 4 t (a0::a1::a2::a3::a4::r) S = .ok (a0::a1::a2::a3::some t::r) S:=rfl
theorem bV5:(aa 5 (a0::a1::a2::a3::a4::some t::r) S).az f=f t S:=rfl
theorem sV5:(aa 5 (a0::a1::a2::a3::a4::some t::r) S).bU f'=f' t S:=rfl
theorem kS5:rQ 5 (a0::a1::a2::a3::a4::a5::r) t S = .nx (a0::a1::a2::a3::a4::some t::r) S:=rfl
theorem bN5:bI 5 t (a0::a1::a2::a3::a4::a5::r) S = .ok (a0::a1::a2::a3::a4::some t::r) S:=rfl
theorem bV6:(aa 6 (a0::a1::a2::a3::a4::a5::some t::r) S).az f=f t S:=rfl
theorem kS6:rQ 6 (a0::a1::a2::a3::a4::a5::a6::r) t S = .nx (a0::a1::a2::a3::a4::a5::some t::r) S:=rfl
theorem bN6:bI 6 t (a0::a1::a2::a3::a4::a5::a6::r) S = .ok (a0::a1::a2::a3::a4::a5::some t::r) S:=rfl
theorem bV7:(aa 7 (a0::a1::a2::a3::a4::a5::a6::some t::r) S).az f=f t S:=rfl
theorem kS7:rQ 7 (a0::a1::a2::a3::a4::a5::a6::a7::r) t S = .nx (a0::a1::a2::a3::a4::a5::a6::some t::r) S:=rfl
theorem bN7:bI 7 t (a0::a1::a2::a3::a4::a5::a6::a7::r) S = .ok (a0::a1::a2::a3::a4::a5::a6::some t::r) S:=rfl
theorem kS8:rQ 8 (a0::a1::a2::a3::a4::a5::a6::a7::a8::r) t S = .nx (a0::a1::a2::a3::a4::a5::a6::a7::some t::r) S:=rfl
theorem bN8:bI 8 t (a0::a1::a2::a3::a4::a5::a6::a7::a8::r) S = .ok (a0::a1::a2::a3::a4::a5::a6::a7::some t::r) S:=rfl
theorem bN9:bI 9 t (a0::a1::a2::a3::a4::a5::a6::a7::a8::a9::r) S = .ok (a0::a1::a2::a3::a4::a5::a6::a7::a8::some t::r) S:=rfl
theorem amn:bI 10 t (a0::a1::a2::a3::a4::a5::a6::a7::a8::a9::AY::r) S = .ok (a0::a1::a2::a3::a4::a5::a6::a7::a8::a9::some t::r) S:=rfl
theorem amo:rQ 11 (a0::a1::a2::a3::a4::a5::a6::a7::a8::a9::AY::a11::r) t S = .nx (a0::a1::a2::a3::a4::a5::a6::a7::a8::a9::AY::some t::r) S:=rfl
theorem amq:(aa 12 (a0::a1::a2::a3::a4::a5::a6::a7::a8::a9::AY::a11::some t::r) S).az f=f t S:=rfl
theorem amr:rQ 12 (a0::a1::a2::a3::a4::a5::a6::a7::a8::a9::AY::a11::a12::r) t S = .nx (a0::a1::a2::a3::a4::a5::a6::a7::a8::a9::AY::a11::some t::r) S:=rfl
theorem bC:(mC t r S).az f=f t S:=rfl
theorem sC:(mC t r S).bU f'=f' t S:=rfl
theorem ahy:dI [n0] sb [x0] S=(sb [some x0] S).fL:=rfl
theorem ahz:dI [n0,n1] sb [x0] S=(sb [some x0,none] S).fL:=rfl
theorem ahA:dI [n0,n1,n2] sb [x0] S=(sb [some x0,none,none] S).fL:=rfl
theorem ahB:dI [n0,n1,n2,n3] sb [x0] S=(sb [some x0,none,none,none] S).fL:=rfl
theorem ahC:dI [n0,n1,n2,n3,n4,n5,n6,n7] sb [x0] S=(sb [some x0,none,none,none,none,none,none,none] S).fL:=rfl
theorem ahD:dI [n0,n1] sb [x0,x1] S=(sb [some x0,some x1] S).fL:=rfl
theorem ahE:dI [n0,n1,n2] sb [x0,x1] S=(sb [some x0,some x1,none] S).fL:=rfl
theorem ahF:dI [n0,n1,n2,n3] sb [x0,x1] S=(sb [some x0,some x1,none,none] S).fL:=rfl
theorem ahG:dI [n0,n1,n2,n3,n4] sb [x0,x1] S=(sb [some x0,some x1,none,none,none] S).fL:=rfl
theorem ahH:dI [n0,n1,n2,n3,n4,n5] sb [x0,x1] S=(sb [some x0,some x1,none,none,none,none] S).fL:=rfl
theorem ahI:dI [n0,n1,n2,n3,n4,n5,n6] sb [x0,x1] S=(sb [some x0,some x1,none,none,none,none,none] S).fL:=rfl
theorem ahJ:dI [n0,n1,n2,n3,n4,n5,n6,n7] sb [x0,x1] S=(sb [some x0,some x1,none,none,none,none,none,none] S).fL:=rfl
theorem ahK:dI [n0,n1,n2,n3,n4,n5,n6,n7,n8] sb [x0,x1] S=(sb [some x0,some x1,none,none,none,none,none,none,none] S).fL:=rfl
theorem abi:dI [n0,n1,n2,n3,n4,n5,n6,n7,n8,n9,n10,n11,n12] sb [x0,x1] S=(sb [some x0,some x1,none,none,none,none,none,none,none,none,none,none,none] S).fL:=rfl
theorem ahL:dI [n0,n1,n2] sb [x0,x1,x2] S=(sb [some x0,some x1,some x2] S).fL:=rfl
theorem ahM:dI [n0,n1,n2,n3] sb [x0,x1,x2] S=(sb [some x0,some x1,some x2,none] S).fL:=rfl
theorem ahN:dI [n0,n1,n2,n3,n4] sb [x0,x1,x2] S=(sb [some x0,some x1,some x2,none,none] S).fL:=rfl
theorem ahO:dI [n0,n1,n2,n3] sb [x0,x1,x2,x3] S=(sb [some x0,some x1,some x2,some x3] S).fL:=rfl
theorem ahP:dI [n0,n1,n2,n3,n4] sb [x0,x1,x2,x3,x4] S=(sb [some x0,some x1,some x2,some x3,some x4] S).fL:=rfl
theorem ahQ:fnX [n0,n1,n2,n3] sb [x0,x1] S=(sb [some x0,some x1,none,none] S).aaT:=rfl
theorem kF1:kFn 1 q [x0] S=q [x0] S:=rfl
theorem kF2:kFn 2 q [x0,x1] S=q [x0,x1] S:=rfl
theorem kF3:kFn 3 q [x0,x1,x2] S=q [x0,x1,x2] S:=rfl
theorem kF4:kFn 4 q [x0,x1,x2,x3] S=q [x0,x1,x2,x3] S:=rfl
theorem kF5:kFn 5 q [x0,x1,x2,x3,x4] S=q [x0,x1,x2,x3,x4] S:=rfl
theorem kM1:ue 1 q t [] S=q [t] S:=rfl
theorem kM2:ue 2 q t [x0] S=q [t,x0] S:=rfl
theorem kM3:ue 3 q t [x0,x1] S=q [t,x0,x1] S:=rfl
theorem kK3:Gs c 3 q [x0,x1] S=(q [.hd S.length,x0,x1] (S++[.fE c []])).az (uf S.length):=rfl
theorem kK5:Gs c 5 q [x0,x1,x2,x3] S=(q [.hd S.length,x0,x1,x2,x3] (S++[.fE c []])).az (uf S.length):=rfl
theorem kL0:zR [] S = .ok (.ls []) S:=if_pos (sl 0 rfl)
theorem kC0:MH [] S = .ok (.hd S.length) (S++[.aV []])  := if_pos (sl 0 rfl)
theorem kT1:Bw [x0] S = .ok (.tp [x0]) S:=if_pos (sl 1 rfl)
theorem kL1:zR [x0] S = .ok (.ls [x0]) S:=if_pos (sl 1 rfl)
theorem kT2:Bw [x0,x1] S = .ok (.tp [x0,x1]) S:=if_pos (sl 2 rfl)
theorem kL2:zR [x0,x1] S = .ok (.ls [x0,x1]) S:=if_pos (sl 2 rfl)
theorem kT3:Bw [x0,x1,x2] S = .ok (.tp [x0,x1,x2]) S:=if_pos (sl 3 rfl)
theorem kL3:zR [x0,x1,x2] S = .ok (.ls [x0,x1,x2]) S:=if_pos (sl 3 rfl)
theorem kT4:Bw [x0,x1,x2,x3] S = .ok (.tp [x0,x1,x2,x3]) S:=if_pos (sl 4 rfl)
theorem kL4:zR [x0,x1,x2,x3] S = .ok (.ls [x0,x1,x2,x3]) S:=if_pos (sl 4 rfl)
theorem kT5:Bw [x0,x1,x2,x3,x4] S = .ok (.tp [x0,x1,x2,x3,x4]) S:=if_pos (sl 5 rfl)
theorem kL5:zR [x0,x1,x2,x3,x4] S = .ok (.ls [x0,x1,x2,x3,x4]) S:=if_pos (sl 5 rfl)
theorem kC5:MH [x0,x1,x2,x3,x4] S = .ok (.hd S.length) (S++[.aV [x0,x1,x2,x3,x4]])  := if_pos (sl 5 rfl)
theorem kT6:Bw [x0,x1,x2,x3,x4,x5] S = .ok (.tp [x0,x1,x2,x3,x4,x5]) S:=if_pos (sl 6 rfl)
theorem kT7:Bw [x0,x1,x2,x3,x4,x5,x6] S = .ok (.tp [x0,x1,x2,x3,x4,x5,x6]) S:=if_pos (sl 7 rfl)
theorem kL8:zR [x0,x1,x2,x3,x4,x5,x6,x7] S = .ok (.ls [x0,x1,x2,x3,x4,x5,x6,x7]) S:=if_pos (sl 8 rfl)
theorem ams:zR [x0,x1,x2,x3,x4,x5,x6,x7,x8,x9,iB,iw] S = .ok (.ls [x0,x1,x2,x3,x4,x5,x6,x7,x8,x9,iB,iw]) S:=if_pos (sl 12 rfl)
theorem iT0:aZ (.tp (y::l)) (.int 0) S = .ok y S:=Vq (by simp[at0])
theorem iT1:aZ (.tp (x0::y::l)) (.int 1) S = .ok y S:=Vq (by simp[at1])
theorem iT2:aZ (.tp (x0::x1::y::l)) (.int 2) S = .ok y S:=Vq (by simp[at2])
theorem iT3:aZ (.tp (x0::x1::x2::y::l)) (.int 3) S = .ok y S:=Vq (by simp[at3])
theorem iT4:aZ (.tp (x0::x1::x2::x3::y::l)) (.int 4) S = .ok y S:=Vq (by simp[at4])
theorem iT5:aZ (.tp (x0::x1::x2::x3::x4::y::l)) (.int 5) S = .ok y S:=Vq (by simp[at5])
theorem iT6:aZ (.tp (x0::x1::x2::x3::x4::x5::y::l)) (.int 6) S = .ok y S:=Vq (by simp[at6])
theorem iT7:aZ (.tp (x0::x1::x2::x3::x4::x5::x6::y::l)) (.int 7) S = .ok y S:=Vq (by simp[at7])
theorem iL0:aZ (.ls (y::l)) (.int 0) S = .ok y S:=ixl (by simp[at0])
theorem iL1:aZ (.ls (x0::y::l)) (.int 1) S = .ok y S:=ixl (by simp[at1])
theorem gIb:tT [.bl b] S = .ok (.int (if b then 1 else 0)) S:=rfl
theorem amt:ai g (aa 0) fb (some t::r) S=(fb (some t::r) S).az (g t):=rfl
theorem amu:zQ g (aa 0) (some t::r) y S=g y t S:=rfl
theorem aV0:af (aa 0) fr (some t::r) S=(fr (some t::r) S).az (gn t):=rfl
theorem amv:ai g (aa 1) fb (a0::some t::r) S=(fb (a0::some t::r) S).az (g t):=rfl
theorem amw:zQ g (aa 1) (a0::some t::r) y S=g y t S:=rfl
theorem aV1:af (aa 1) fr (a0::some t::r) S=(fr (a0::some t::r) S).az (gn t):=rfl
theorem amx:ai g (aa 2) fb (a0::a1::some t::r) S=(fb (a0::a1::some t::r) S).az (g t):=rfl
theorem amy:zQ g (aa 2) (a0::a1::some t::r) y S=g y t S:=rfl
theorem aV2:af (aa 2) fr (a0::a1::some t::r) S=(fr (a0::a1::some t::r) S).az (gn t):=rfl
theorem amz:ai g (aa 3) fb (a0::a1::a2::some t::r) S=(fb (a0::a1::a2::some t::r) S).az (g t):=rfl
theorem amA:zQ g (aa 3) (a0::a1::a2::some t::r) y S=g y t S:=rfl
theorem aV3:af (aa 3) fr (a0::a1::a2::some t::r) S=(fr (a0::a1::a2::some t::r) S).az (gn t):=rfl
theorem amB:ai g (aa 4) fb (a0::a1::a2::a3::some t::r) S=(fb (a0::a1::a2::a3::some t::r) S).az (g t):=rfl
theorem amC:zQ g (aa 4) (a0::a1::a2::a3::some t::r) y S=g y t S:=rfl
theorem aV4:af (aa 4) fr (a0::a1::a2::a3::some t::r) S=(fr (a0::a1::a2::a3::some t::r) S).az (gn t):=rfl
theorem amD:ai g (aa 5) fb (a0::a1::a2::a3::a4::some t::r) S=(fb (a0::a1::a2::a3::a4::some t::r) S).az (g t):=rfl
theorem aV5:af (aa 5) fr (a0::a1::a2::a3::a4::some t::r) S=(fr (a0::a1::a2::a3::a4::some t::r) S).az (gn t):=rfl
theorem amE:ai g (aa 6) fb (a0::a1::a2::a3::a4::a5::some t::r) S=(fb (a0::a1::a2::a3::a4::a5::some t::r) S).az (g t):=rfl
theorem aV6:af (aa 6) fr (a0::a1::a2::a3::a4::a5::some t::r) S=(fr (a0::a1::a2::a3::a4::a5::some t::r) S).az (gn t):=rfl
theorem aV7:af (aa 7) fr (a0::a1::a2::a3::a4::a5::a6::some t::r) S=(fr (a0::a1::a2::a3::a4::a5::a6::some t::r) S).az (gn t):=rfl
theorem aV8:af (aa 8) fr (a0::a1::a2::a3::a4::a5::a6::a7::some t::r) S=(fr (a0::a1::a2::a3::a4::a5::a6::a7::some t::r) S).az (gn t):=rfl
theorem aV9:af (aa 9) fr (a0::a1::a2::a3::a4::a5::a6::a7::a8::some t::r) S=(fr (a0::a1::a2::a3::a4::a5::a6::a7::a8::some t::r) S).az (gn t):=rfl
theorem ahR:ai g (aa 11) fb (a0::a1::a2::a3::a4::a5::a6::a7::a8::a9::AY::some t::r) S=(fb (a0::a1::a2::a3::a4::a5::a6::a7::a8::a9::AY::some t::r) S).az (g t):=rfl
theorem ahS:zQ g (aa 11) (a0::a1::a2::a3::a4::a5::a6::a7::a8::a9::AY::some t::r) y S=g y t S:=rfl
theorem amF:af (aa 12) fr (a0::a1::a2::a3::a4::a5::a6::a7::a8::a9::AY::a11::some t::r) S=(fr (a0::a1::a2::a3::a4::a5::a6::a7::a8::a9::AY::a11::some t::r) S).az (gn t):=rfl
theorem sS5:(R.ok t S).bU (rQ 5 (a0::a1::a2::a3::a4::a5::r)) = .nx (a0::a1::a2::a3::a4::some t::r) S:=rfl
theorem kBC:zQ g (mC y) r t S=g t y S:=rfl
theorem kCN:MG aj r t S = .ok [t] S:=rfl
theorem aC:af (mC t) fr r S=(fr r S).az (gn t):=rfl
theorem ln7:∀{p0 p1 p2 p3 p4 p5 p6:Str×Tr},([p0,p1,p2,p3,p4,p5,p6]:List (Str×Tr)).length=7:=rfl
theorem amG:∀{p0 p1 p2 p3 p4 p5 p6 p7 p8 p9 p10 p11:Str×Tr},([p0,p1,p2,p3,p4,p5,p6,p7,p8,p9,p10,p11]:List (Str×Tr)).length=12:=rfl
end
section
variable {G:Gx}{k:Nat}{X:Cx}{e o:Expr}{es:List Expr}{f:Em}{fo:Em}{fr:En->Cs->R (List Tr)}{x:Str}{pos jS p eX:Pos}{CX:_}{j n:Nat}{ad:Addr}{fd:FuncData}{ps:List Str}{q:Fn}{st:Stmt}{c m:Str}
theorem amH (i:Nat)(hN:X.N.Nodup)(he:TV G k X e f)(hi:X.N[i]? = some x:=by rfl)(hx:UH X.env.scope x:=by first|exact Or.inl rfl|exact Or.inr rfl)(hs:swapsWith e (some (.Name x jS)) pos.line X.env=pure false:=by rfl)(hf:X.fn x=true\/X.env.scope.names.lookup x=some .local:=by first|exact .inl rfl|exact .inr rfl|assumption):wJ G k X (.Assign [.Name x jS] e pos) (aR i f):=aad hN hi hx he hs hf
theorem fU (i:Nat)(hN:X.N.Nodup)(hi:X.N[i]? = some x:=by rfl)(hx:UH X.env.scope x:=by first|exact Or.inl rfl|exact Or.inr rfl)(hf:X.fn x=true\/X.env.scope.names.lookup x=some .local:=by first|exact .inl rfl|exact .inr rfl|assumption):IJ G k X (.Name x pos) (bI i):=RN hN hi hx hf
theorem cP (F:aO X.prog X.w X.K X.mg X.base CX j ad fd ps (dS G.K G.cl n q))(D:oq X.K X.mg x st ps ad fd)(ha:wI G k X (e::es) fr)(hj:j<=k:=by decide)(hx:gB CX X G.E:=by first|exact aF|exact amI)
  (hg:Gl X x:=by rfl) (sP:(x == ("__debug__" : Str))=false:=by decide) (he:dN e=false:=by rfl) (hpl:dh es=true:=by rfl) (C8:0<k:=by first|decide|omega):
  TV G k X (.Call (.Name x p) (e::es) [] pos) (dR n q fr):=zC F hj D.m D.F.kp D.b hx ha hg sP he hpl C8
theorem Jb {F T:List Str}{ns:List Nat}{sc:Scope}(st:Stmt)(d:(∀y∈sc.names,y.2 ≠ .cell)/\(∀y∈sc.names,y.2 = .local->sc.names.lookup y.1=some .local)/\(∀y∈sc.names,y.2 = .free->(ak st).names.lookup y.1=some .cell)/\∀x∈F,sc.names.lookup x=some .free)(h1:sc.kind = .function:=by rfl)(h6:ns.map (λj=>X.N[j]?)=F.map some:=by rfl)(he:∀n,X.env.kindOf n=(ak st).names.lookup n:=by intro _;rfl):dB X F T ns sc:=⟨h1,d.1,d.2.1,λy hy h=>(he _).trans (d.2.2.1 y hy h),d.2.2.2,h6⟩
end
section
variable {prog:Program}{w:World}{A:Around}{E:Value->Shared->Prop}{s:Shared}{z0:Array Keyed}
end
theorem pL:bootBuiltins "sorted"=some (.builtin "sorted"):=by kernel_rfl
section
variable {G:Gx}{k:Nat}{w:Wd}{X:Cx}{ah:List (Addr×Obj)}{s:Shared}{σ:St}{H:Hp}
end
end L2
namespace L2
open PySem PySem.Spec PyProof.Rows
noncomputable def SS (to:TE)(tl th:TO):TG:=λv σ H Q=>to σ H λx H1=>tl σ H1 λl H2=>th σ H2 λu H3=>∃p b xs ys a c,x = .ref p/\v = .ref b/\H3 p=some (.aV xs)/\H3 b=some (.aV ys)/\p≠b/\l=some a/\u=some c/\0<=a/\a<=c/\c<=xs.length/\xs.length+ys.length<=sizeLine/\Q σ (br H3 p (.aV (xs.take a.toNat++ys++xs.drop c.toNat)))
section
variable {X:Cx}{o:Expr}{lo hi:Option Expr}{to:TE}{tl th:TO}{p2 pos:Pos}
theorem Jc (ho:PE X o to)(hl:PO X lo tl)(hu:PO X hi th)
  (ha:∀v,assign (.Subscript o (.Slice lo hi none p2) pos) X.env v=(do
   let ov <-holding [v] (eval o X.env)
   let iv <-holding [v,ov] (eval (.Slice lo hi none p2) X.env)
   standAt pos
   holding [v,ov,iv] (setItem ov iv v)
   release [iv,v,ov] []):=by intro _;rfl):PG X (.Subscript o (.Slice lo hi none p2) pos) (SS to tl th):=by
 intro ah s σ H v u Q I r h;rw[ha];refine zaa (zaD (cG (ho ah s σ H _ I h) λov s1 b9=>?_))
 obtain⟨x,H1,I1,r1,q1⟩:=b9;refine zaa (zaD (wpAny_Slice (cG (hl ah s1 σ H1 _ I1 q1) λvl s2 cZ=>?_)))
 obtain⟨l,H2,I2,pl,q2⟩:=cZ;refine cG (hu ah s2 σ H2 _ I2 q2) λvu s3 dF=>?_
 obtain⟨u3,H3,I3,pu,q3⟩:=dF;refine zad ?_
 have I4:aI X ah σ H3 { s3 with heap:=s3.heap.push { cls:=.type "slice",data:=.fields #[vl,vu,.none]} }:=I3.gz (t':=s3.toks) λb ob q=>zab _ q
 obtain⟨p,b,xs,ys,a,c,rfl,rfl,hp,hb,qj,rfl,rfl,h0,hac,hle,hz,q⟩:=q3;cases r1;cases r;obtain⟨z,aH,n,rr,U7,e⟩:=I4.wo hp;obtain⟨z2,dZ,n2,r2,Ig,e2⟩:=I4.wo hb;obtain⟨a',rfl⟩:=zbf h0;obtain⟨c',rfl⟩:=zbf (Int.le_trans h0 hac)
 have hsz:aH.toArray.size=xs.length:=by rw[zal];omega
 have amJ:dZ.toArray.size=ys.length:=by rw[zal];omega
 refine zaa (zcc (zaa (zaD (wu (a:=a') (c:=c') e e2 qj (Heap.IsSliceOf.new ..) pl pu (by omega) (by rw[hsz];omega) (by rw[hsz,amJ];exact hz) ?_))))
 refine wpAny_release ⟨σ,_,I4.Lc (its':=aH.take a'++dZ++aH.drop c') (t':=s3.toks) hp e ?_ (bz.i9 (bz.i9 (rr.take _) r2) (rr.drop _)) ?_,q⟩
 ·exact Ih aH dZ a' c'
 ·rw[zak,zak,zaB,zck]
  omega
end
noncomputable def M4 (fo fl fh:Em):Tr->En->Cs->R En:=λt τ S=>(fo τ S).az λu S1=>(fl τ S1).az λj S2=>match j with
 |.int i=>(fh τ S2).az λk S3=>(match u,k,t with
  |.hd n,.int c,.ls ys=>(match cO S3 n with|some l=>if 0<=i/\i<=c/\c<=l.length/\l.length+ys.length<=sizeLine then .ok τ (S3.set n (.aV (l.take i.toNat++ys++l.drop c.toNat))) else .ay|none=>.ay)
  |_,_,_=>.ay)
 |_=>.ay
section
variable {G:Gx}{k:Nat}{w:Wd}{X:Cx}{o:Expr}{fo fl fh:Em}{p2 pos:Pos}
theorem abj {lo hi:Expr}(ho:TV G k X o fo)(hl:TV G k X lo fl)(hh:TV G k X hi fh)(ha:∀v,assign (.Subscript o (.Slice (some lo) (some hi) none p2) pos) X.env v=(do
   let ov <-holding [v] (eval o X.env)
   let iv <-holding [v,ov] (eval (.Slice (some lo) (some hi) none p2) X.env)
   standAt pos
   holding [v,ov,iv] (setItem ov iv v)
   release [iv,v,ov] []):=by intro _;rfl):IJ G k X (.Subscript o (.Slice (some lo) (some hi) none p2) pos) (M4 fo fl fh):=.mk<|λox=>(Jc (ho ox) (yS (hl ox)) (yS (hh ox)) ha).wk λv σ H Q h=>by
 obtain⟨w,S,τ,t,hr,sl,r,q⟩:=h;refine⟨w,S,τ,hr,sl,(bg.az q).mono λx H1 ⟨w1,S1,t1,cW,bL,r1,_,q1⟩=>?_⟩
 refine⟨w1,S1,τ,bL,sl.mono cW,(bg.az q1).mono λy H2 ⟨w2,S2,t2,eW,dG,r2,_,q2⟩=>?_⟩
 split at q2
 ·rename_i _ i _
  refine⟨i,aK r2,w2,S2,τ,dG,(sl.mono cW).mono eW,(bg.az q2).mono λz H3 ⟨w3,S3,t3,i7,mG,r3,_,q3⟩=>?_⟩
  split at q3
  ·rename_i n c ys _ _ _ _ _
   split at q3
   ·rename_i l el
    split at q3
    ·rename_i hc
     have r1':=(RT.mono (eW.trans i7) _ _ r1).cT
     have r':=RT.mono ((cW.trans eW).trans i7) _ _ r
     unfold RT at r';obtain⟨b,zs,rfl,hF,rz⟩:=r';obtain⟨xs,h1,h2⟩:=mG.cell _ _ (cA el)
     have qj:w3.ρ n≠b:=λz=>by
      rw[<-z,mG.F] at hF;unfold Fz at hF;rw[if_pos (.inl ⟨n,⟨_,cA el,rfl⟩,rfl⟩)] at hF;cases hF
     refine⟨c,aK r3,_,b,xs,zs,i,c,r1'.2,rfl,h1,mG.sub _ _ hF,qj,rfl,rfl,hc.1,hc.2.1,by rw[h2.len];exact hc.2.2.1,by rw[h2.len,rz.len];exact hc.2.2.2,?_⟩
     exact q3 w3 _ _ (.refl _) (putL mG el (((h2.take _).rJ rz).rJ (h2.drop _))) (((sl.mono cW).mono eW).mono i7)
    ·exact q3.elim
   ·exact q3.elim
  ·exact q3.elim
 ·exact q2.elim
end
section
variable {G:Gx}{k:Nat}{w:Wd}{X:Cx}{ah:List (Addr×Obj)}{s:Shared}{σ:St}{H:Hp}
end
end L2
namespace L2
open PySem PySem.Spec PyProof.Rows
section
variable {prog:Program}{w:World}{A:Around}{E:Value->Shared->Prop}{s:Shared}
theorem BB {T:String}{o:Obj}{n:Nat}{l:Addr}{vs:List Value}{Q:List Value->Shared->Prop}(hT:T="list" \/ T="tuple")(ho:s.heap.get? l=some o)(hc:o.cls = .type T)(hd:o.data = .seq vs.toArray n)
  (h:Q vs { s with heap:=(s.heap.push (seqObj "list" #[] 0)).update s.heap.objs.size (Obj.mapSeq (·++vs.toArray))}) (hsz:vs.length<=sizeLine):
  wpAny (model prog w) A (collect (.ref l)) Q E s:=by
 unfold collect;refine zaa (wpAny_runValue (zdn entry_proto_collect' ?_))
 show wpAny _ _ (do again (.builtin "list.__iadd__" ⟨[<-newList [],.ref l],[]⟩)) _ _ s
 refine zaa (wpAny_newList (zad ⟨Code.quiet_builtin _ (by decide +kernel),zdn entry_list_iadd' ?_⟩))
 show wpAny _ _ (Builtin.List.listExtendWith (.ref s.heap.objs.size) (.ref l) (.ref s.heap.objs.size)) _ _ { s with heap:=s.heap.push (seqObj "list" #[] 0)}
 unfold Builtin.List.listExtendWith;have rC:(s.heap.push (seqObj "list" #[] 0)).get? l=some o:=zab _ ho
 refine zaa (zcO (T:=T) ⟨o,rC,hc⟩ ?_)
 rw[if_pos (by rcases hT with rfl|rfl;have q:(Value.type "list" == Value.type "list")=true:=(by rfl);rw[q];simp;have q:(Value.type "tuple" == Value.type "tuple")=true:=(by rfl);rw[q];simp)]
 refine zaa (listItems_at rC hd ?_)
 refine zaa (listItems_at (xs:=#[]) (n:=0) (zan _ rfl) rfl ?_)
 rw[if_neg (by simp)]
 refine zaa (listUpdate_at (xs:=#[]) (n:=0) (zan _ rfl) rfl ?_ (zcA _) (by show (#[]++vs.toArray).size<=sizeLine+1;simp only[zdL,zal,zbe];omega))
 refine zad ?_
 show wpAny (model prog w) A (do
   let o <-load s.heap.objs.size
   match o.data with
   |.seq xs _=>pure xs.toList
   |_=>unsupported "internal:collect") Q E { s with heap:=(s.heap.push (seqObj "list" #[] 0)).update s.heap.objs.size (Obj.mapSeq (·++vs.toArray))}
 refine zaa (wpAny_load (get?_update_seq (zan _ rfl) _) ?_)
 show wpAny _ _ (pure ((#[]:Array Value)++vs.toArray).toList) Q E _
 rw[show ((#[]:Array Value)++vs.toArray).toList=vs by simp]
 exact zad h
theorem Ex {T:String}{o:Obj}{n:Nat}{l:Addr}{vs:List Value}{ss:List Str}{Q:Value->Shared->Prop}(hT:T="list" \/ T="tuple")(ho:s.heap.get? l=some o)(hc:o.cls = .type T)(hd:o.data = .seq vs.toArray n)(hS:StrsAre vs ss)(h64:vs.length<64)
  (h:∀(vY:Array Value) (ss':List Str),StrsAre vY.toList ss'->ss'.Perm ss->sortedS ss'=true->Q (.ref (s.heap.objs.size+1)) {s with heap:=sortedAll s.heap vs vY}):
  wpAny (model prog w) A (call (.builtin "sorted") [.ref l]) Q E s:=by
 refine Calls.call_function_entry kind_sorted plain_sorted entry_sorted (args_sorted1 _) ?_
 unfold Builtin.«sorted»
 refine zaa (m:=checkCount "sorted" 1 1 _) (zad (zaa (BB hT ho hc hd (zaa (wpAny_newList ?_)) (by rw[zdy];omega))))
 have hsz:((s.heap.push (seqObj "list" #[] 0)).update s.heap.objs.size (Obj.mapSeq (·++vs.toArray))).objs.size=s.heap.objs.size+1:=by
  rw[Heap.size_update,size_push']
 have hoL:(((s.heap.push (seqObj "list" #[] 0)).update s.heap.objs.size (Obj.mapSeq (·++vs.toArray))).push (seqObj "list" vs.toArray 0)).get? (s.heap.objs.size+1)=some (seqObj "list" vs.toArray 0):=by
  rw[<-hsz];exact zan _ rfl
 show wpAny _ _ _ _ _ { s with heap:=((s.heap.push (seqObj "list" #[] 0)).update s.heap.objs.size (Obj.mapSeq (·++vs.toArray))).push (seqObj "list" vs.toArray 0)}
 rw[hsz];refine zaa (zaD (zaY slot_list_sort ⟨_,hoL,rfl⟩ entry_list_sort (list_sort_treeK strKind_oneLt hoL hS.keysOf (λasC asD cX e=>keyKind_strs (by rw[<-e];exact hS)) h64 λKG a1 a2=>⟨_,rfl,?_⟩) (args_list_sort _)))
 obtain⟨ss',h1,h2,h3⟩:=sorted_out_str hS a1 a2;exact zad ⟨_,rfl,h _ ss' h1 h2 h3⟩
end
noncomputable def oN (x y:Str):Str:=if ltCps y.cps.toList x.cps.toList=true then y else x
noncomputable def nK (x y:Str):Str:=if ltCps y.cps.toList x.cps.toList=true then x else y
theorem SV {x y:Str}(h1:ltCps y.cps.toList x.cps.toList=false)(h2:ltCps x.cps.toList y.cps.toList=false):x=y:=by
 rw[ltCps_eq] at h1 h2;have a1:¬ y.cps.toList<x.cps.toList:=of_decide_eq_false h1
 have a2:¬ x.cps.toList<y.cps.toList:=of_decide_eq_false h2
 have e:x.cps.toList=y.cps.toList:=List.le_antisymm a1 a2
 cases x;cases y
 simp at e
 rw[e]
theorem ahT {x y:Str}{ss:List Str}(hp:ss.Perm [x,y])(hs:sortedS ss=true):ss=[oN x y,nK x y]:=by
 have key:∀a b:Str,sortedS [a,b]=true->ltCps b.cps.toList a.cps.toList=false:=λa b h=>by
  have h':(!ltCps b.cps.toList a.cps.toList && risingS b [])=true:=h
  simpa[risingS] using h'
 have:ss=[x,y]\/ss=[y,x]:=by
  have hl:=hp.length_eq;rcases ss with _|⟨a,_|⟨b,_|⟨c,r⟩⟩⟩<;>simp at hl
  have ma:a∈[x,y]:=hp.mem_iff.mp (by simp)
  simp at ma
  rcases ma with rfl|rfl
  ·have:=(List.perm_cons a).mp hp
   simp at this;subst this;exact .inl rfl
  ·have h2:=hp.trans (List.Perm.swap a x [])
   have:=(List.perm_cons a).mp h2
   simp at this;subst this;exact .inr rfl
 rcases this with rfl|rfl
 ·have:=key _ _ hs
  unfold oN nK;rw[this];rfl
 ·have h1:=key _ _ hs
  by_cases h2:ltCps y.cps.toList x.cps.toList=true
  ·unfold oN nK;rw[if_pos h2,if_pos h2]
  ·have e:=SV (Bool.eq_false_iff.mpr h2) h1
   subst e;unfold oN nK;simp
theorem Jd:∀{vs:List Value} {ss:List Str},StrsAre vs ss->bz (ss.map V.str) vs:=λh=>by
 induction h with
 |nil=>exact .nil
 |cons n t r ih=>exact .cons ⟨t,rfl⟩ ih
theorem zX {X:Cx}:ja X (.builtin "sorted") (λxs H Q=>∃(p:Addr) (x y:Str),xs=[.ref p]/\(i6 X.K H p [.str x,.str y]\/oM X.K H p [.str x,.str y])/\∀l:Addr,H l=none->Q (.ref l) (br H l (.aV [.str (oN x y),.str (nK x y)]))):=by
 intro ah s σ H xs us Q I r h;obtain⟨p,x,y,rfl,hq,q⟩:=h;obtain⟨u,rfl,rx⟩:=lX r;cases rx;obtain⟨T,o,n,aH,hT,ho,hc,hd,r'⟩:∃T o n,∃aH:List Value,(T="list" \/ T="tuple")/\s.heap.get? p=some o/\o.cls = .type T/\o.data = .seq aH.toArray n/\bz ([x,y].map V.str) aH:=by
  rcases hq with hq|hq
  ·obtain⟨aH,r',⟨o,n,h1,h2,_,h3⟩,_⟩:=I.list hq
   exact⟨_,o,n,aH,.inl rfl,h1,h2,h3,r'⟩
  ·obtain⟨aH,r',⟨o,h1,h2,n,h3⟩,_⟩:=I.fD hq
   exact⟨_,o,n,aH,.inr rfl,h1,h2,h3,r'⟩
 have cJ:=r'.length;refine Ex hT ho hc hd (FZ r') (by rw[<-cJ];exact (show 2<64 by decide)) λvY ss' a1 a2 a3=>?_
 have e':=ahT a2 a3;subst e';obtain⟨e,he⟩:=sortedAll_at s.heap aH vY;exact⟨.ref (s.heap.objs.size+1),_,I.ju (t':=s.toks) (λb o=>sortedAll_old) (zbk _) (show bY X.prog X.w _ _ _ (.aV ([oN x y,nK x y].map V.str)) from ⟨show 2<=sizeLine by decide,vY.toList,e,Jd a1,he⟩),rfl,q _ (I.cg.fresh (zbk _))⟩
noncomputable def kU:List Tr->Cs->R Tr:=λts S=>match ts with
 |[t]=>(match zo S t with|some [.str x,.str y]=>.ok (.ls [.str (oN x y),.str (nK x y)]) S|_=>.ay)
 |_=>.ay
theorem Gz {G:Gx}{k:Nat}:lE G k (.builtin "sorted") kU:=.mk<|λX o ah s σ H xs us Q I rv zp=>by
 obtain⟨w,S,ts,hr,r,q⟩:=zp;unfold kU at q;split at q
 ·obtain⟨x,rfl,r1⟩:=fj r
  split at q
  ·rename_i a b e
   obtain⟨p,xs,e1,sq,R⟩:=tP hr r1 e;have ex:xs=[.str a,.str b]:=by
    obtain⟨_,_,rfl,rfl,_,_,rfl,rfl,rfl⟩:=R;rfl
   rw[<-o.K] at sq;subst ex;exact zX ah s σ H _ us Q I rv ⟨p,a,b,by rw[e1],sq,hr.jd (ts:=[.str (oN a b),.str (nK a b)]) (xs:=[.str (oN a b),.str (nK a b)]) (show bF w (.str (oN a b)::[.str (nK a b)]) _ from bF.cons rfl (bF.cons rfl bF.nil)) rfl q⟩
  ·exact q.elim
 ·exact q.elim
noncomputable def amK (K:W.Frag):R2:=λx y H Q=>∃p q xs ys,x = .ref p/\y = .ref q/\oM K H p xs/\oM K H q ys/\xs.length=ys.length/\xs.all fQ=true/\ys.all fQ=true /\
 Q (.bl (decide (xs.length=ys.length) && (xs.zip ys).all (λz=>qP z.1 z.2))) H
theorem abk {X:Cx}(hu:X.A.units<cLine):jQ X (compareOp .Eq) (amK X.K):=by
 intro ah s σ H x y v u Q I rx ry h;obtain⟨p,q,xs,ys,rfl,rfl,hp,hq,hl,fx,fy,k⟩:=h;cases rx;cases ry;obtain⟨aH,r1,p1,_⟩:=I.fD hp;obtain⟨dZ,r2,p2,_⟩:=I.fD hq;have l1:=r1.length;have l2:=r2.length;refine SeqAt.eq_tupleAt (e:=λj=>((xs[j]?.bind λa=>ys[j]?.map λb=>qP a b)).getD false) p1 p2 hu (λj h1 h2=>?_) ?_
 ·have h1:j<aH.length:=by simpa using h1
  have h2:j<dZ.length:=by simpa using h2
  have g1:xs[j]? = some xs[j]:=zac (by omega)
  have g2:ys[j]? = some ys[j]:=zac (by omega)
  obtain⟨u1,e1,Zv⟩:=r1.get g1;obtain⟨u2,e2,ru2⟩:=r2.get g2;have f1:fQ xs[j]=true:=zaM.mp fx _ (zbA _)
  have f2:fQ ys[j]=true:=zaM.mp fy _ (zbA _)
  have z1:aH.toArray[j]=u1:=by
   rw[zac h1] at e1;simpa using zas e1
  have z2:dZ.toArray[j]=u2:=by
   rw[zac h2] at e2;simpa using zas e2
  rw[z1,z2,g1,g2];exact yW Zv ru2 f1 f2
 ·refine⟨.bl _,H,I,rfl,?_⟩
  have em:min aH.toArray.size dZ.toArray.size=xs.length:=by simp;omega
  have es:(aH.toArray.size == dZ.toArray.size)=true:=by simp;omega
  have e:(List.range xs.length).all (λj=>((xs[j]?.bind λa=>ys[j]?.map λb=>qP a b)).getD false)=(decide (xs.length=ys.length) && (xs.zip ys).all (λz=>qP z.1 z.2)):=by
   rw[decide_eq_true hl,zcF,zaK,zaM,zaM];constructor
   ·intro h z hz
    obtain⟨i,hi,ez⟩:=zch.mp hz;rw[zcK] at hi
    have:=h i (zci.mpr (by omega))
    rw[zac (by omega),zac (by omega)] at this
    rw[<-ez,zdb];exact this
   ·intro h i hi
    have hi:=zci.mp hi;rw[zac (by omega),zac (by omega)]
    refine h (xs[i],ys[i]) (zch.mpr ⟨i,by rw[zcK];omega,by rw[zdb]⟩)
  rw[em,es,Bool.and_true,e];exact k
noncomputable def M5:Tr->Tr->Cs->R Tr:=λt1 t2 S=>match Kf t1,Kf t2 with
 |some l,some m=>if l.length=m.length/\l.all dQ=true/\m.all dQ=true then .ok (.bl (rR l m)) S else .ay
 |_,_=>.ay
theorem ahU {G:Gx}{k:Nat}:nh G k (compareOp .Eq) M5:=.mk<|λX o ah s σ H x y v u Q I rx ry zp=>by
 obtain⟨w,S,t1,t2,hr,r1,r2,q⟩:=zp;unfold M5 at q;split at q
 ·rename_i l m e1 e2
  split at q
  ·rename_i h
   obtain⟨a,xs,ea,sx,MV⟩:=gZ hr r1 e1;obtain⟨b,ys,eb,sy,Vn⟩:=gZ hr r2 e2;rw[<-o.K] at sx sy;have q:=q w H _ (.refl w) hr gq
   refine abk (zbT (zaZ _ _) o.hu) ah s σ H x y v u Q I rx ry ⟨a,b,xs,ys,ea,eb,sx,sy,by rw[MV.len,Vn.len];exact h.1,g9 h.2.1 MV,g9 h.2.2 Vn,?_⟩
   rw[Gw h.2.1 h.2.2 MV Vn];exact q
  ·exact q.elim
 ·exact q.elim
end L2
namespace L2
open PySem
def bp:=jp @vV0<|jp @bV0<|jp @sV0<|jp @bN0<|jp @bV1<|jp @sV1<|jp @kS1<|jp @bN1<|jp @vV2<|jp @bV2<|jp @sV2<|jp @kS2<|jp @bN2<|jp @vV3<|jp @bV3<|jp @sV3<|jp @kS3<|jp @bN3<|jp @bV4<|jp @sV4<|jp @kS4<|jp @bN4<|jp @bV5<|jp @sV5<|jp @kS5<|jp @bN5<|jp @bV6<|jp @kS6<|jp @bN6<|jp @bV7<|jp @kS7<|jp @bN7<|jp @kS8<|jp @bN8<|jp @bN9<|jp @amn<|jp @amo<|jp @amq<|jp @amr<|jp @bC<|jp @sC<|jp @ahy<|jp @ahz<|jp @ahA<|jp @ahB<|jp @ahC<|jp @ahD<|jp @ahE<|jp @ahF<|jp @ahG<|jp @ahH<|jp @ahI<|jp @ahJ<|jp @ahK<|jp @abi<|jp @ahL<|jp @ahM<|jp @ahN<|jp @ahO<|jp @ahP<|jp @ahQ<|jp @kF1<|jp @kF2<|jp @kF3<|jp @kF4<|jp @kF5<|jp @kM1<|jp @kM2<|jp @kM3<|jp @kK3<|jp @kK5<|jp @kL0<|jp @kC0<|jp @kT1<|jp @kL1<|jp @kT2<|jp @kL2<|jp @kT3<|jp @kL3<|jp @kT4<|jp @kL4<|jp @kT5<|jp @kL5<|jp @kC5<|jp @kT6<|jp @kT7<|jp @kL8<|jp @ams<|jp @iT0<|jp @iT1<|jp @iT2<|jp @iT3<|jp @iT4<|jp @iT5<|jp @iT6<|jp @iT7<|jp @iL0<|jp @iL1<|jp @gIb<|jp @amt<|jp @amu<|jp @aV0<|jp @amv<|jp @amw<|jp @aV1<|jp @amx<|jp @amy<|jp @aV2<|jp @amz<|jp @amA<|jp @aV3<|jp @amB<|jp @amC<|jp @aV4<|jp @amD<|jp @aV5<|jp @amE<|jp @aV6<|jp @aV7<|jp @aV8<|jp @aV9<|jp @ahR<|jp @ahS<|jp @amF<|jp @sS5<|jp @kBC<|jp @kCN<|jp @aC<|jp @ln7<|@amG
def bx:=jp @Bq<|jp @aap<|jp @aaW<|jp @Su<|jp @IV<|jp @MM<|jp @aaX<|jp @Sv<|jp @MN<|jp @Sw<|jp @ahj<|jp @Sx<|jp @IZ<|jp @Sy<|jp @SA<|jp @SD<|jp @SE<|jp @aaY<|jp @aaZ<|jp @SG<|jp @R.dX<|jp @R.zk<|jp @R.fN<|jp @R.A6<|jp @aaq<|jp @aar<|jp @R_<|jp @aas<|jp @t7<|jp @Sa<|jp @amf<|jp @ahk<|jp @aa0<|jp @aa1<|jp @MO<|jp @MP<|jp @MQ<|jp @aa2<|jp @aa3<|jp @ahl<|jp @aa4<|jp @MR<|jp @aa5<|jp @aa6<|jp @SH<|jp @aa7<|jp @aa8<|jp @aa9<|jp @zau.{0,0}<|jp @zaI.{0,0}<|jp @zav.{0}<|jp @zbe.{0}<|jp @zbP.{0}<|jp @zaX.{0}<|jp @zaW.{0}<|jp @zaE.{0}<|jp @List.set_cons_zero.{0}<|jp @zdF.{0}<|jp @zcp.{0}<|jp @zay.{0}<|jp @zeP.{0}<|jp @Option.isNone_some.{0}<|jp @zdB.{0}<|jp @aat<|jp @zbp<|jp @agO<|jp @alQ<|jp @if_true.{0}<|jp @if_false.{0}<|jp @decide_true<|jp @decide_false<|jp @Bool.not_true<|jp @Bool.not_false<|jp @and_true<|jp @false_and<|jp @and_false<|jp @or_true<|jp @true_or<|jp @or_false<|jp @not_true_eq_false<|jp @not_false_eq_true<|jp @at0<|jp @bJ<|jp @kR<|jp @and_self<|jp @or_self<|jp @agp<|jp @R7<|jp @Mt<|jp @R8<|jp @R9<|jp @ie<|jp @zF<|jp @SI<|jp @ic<|jp @SJ<|jp @t8<|jp @xK<|jp @amg<|jp @IT<|jp @Mv<|jp @Mu<|jp @agN<|jp @aba<|jp @zak.{0}<|jp @zaf.{0,0}<|jp @Int.cast_ofNat_Int<|jp @List.isEmpty_cons.{0}<|jp @Int.zero_add<|jp @zH<|jp @Br<|jp @Bt<|jp @wN<|jp @zJ<|jp @Bu<|jp @wO<|jp @zK<|jp @rO<|jp @t_<|jp @ua<|jp @wQ<|jp @agU<|jp @agV<|jp @vIf<|jp @agW<|jp @alX<|jp @agX<|jp @agY<|jp @alY<|jp @agZ<|jp @aaG<|jp @al0<|jp @ag1<|jp @ag2<|jp @ME<|jp @Sf<|jp @ag3<|jp @al1<|jp @vB<|jp @aaH<|jp @al2<|jp @vUn<|jp @vC<|jp @ag4<|jp @MF<|jp @Sg<|jp @ag5<|jp @al3<|jp @al4<|jp @al5<|jp @ag6<|jp @vFn<|jp @Sh<|jp @ag7<|jp @MI<|jp @ag8<|jp @al6<|jp @aaJ<|jp @aaK<|jp @al7<|jp @aaL<|jp @al8<|jp @aaN<|jp @aaO<|jp @al9<|jp @aha<|jp @ahb<|jp @vOr<|jp @Si<|jp @ahc<|jp @Sj<|jp @ahd<|jp @aaP<|jp @amb<|jp @aaQ<|jp @amc<|jp @aaR<|jp @amd<|jp @vIt<|jp @Sk<|jp @aaS<|jp @ame<|jp @El<|jp @IY<|jp @Sn<|jp @So<|jp @Sq<|jp @Ss<|jp @aaU<|jp @ML<|jp @aaV<|jp @zS<|jp @MS<|jp @gE.eq_1<|jp @IM.eq_1<|jp @IM.eq_2<|jp @pB.eq_1<|jp @pB.eq_2<|jp @IQ.eq_1<|jp @IQ.eq_2<|jp @pA.eq_1<|jp @pA.eq_2<|jp @Z6.eq_1<|jp @Z6.eq_2<|jp @vX.eq_1<|jp @vX.eq_2<|jp @gU.eq_1<|jp @gU.eq_2<|jp @gU.eq_3<|jp @zo.eq_1<|jp @zo.eq_2<|jp @zo.eq_3<|jp @zo.eq_4<|jp @zo.eq_5<|jp @zo.eq_6<|jp @vW.eq_1<|jp @vW.eq_2<|jp @vW.eq_3<|jp @vW.eq_4<|jp @Kf.eq_1<|jp @Kf.eq_2<|jp @Kf.eq_3<|jp @F7.eq_1<|jp @F7.eq_2<|jp @D0.eq_1<|jp @D0.eq_2<|jp @D0.eq_3<|jp @cO.eq_1<|jp @mH.eq_1<|jp @iO.eq_1<|jp @IL.eq_1<|jp @ckD.eq_1<|jp @Ko.eq_1<|jp @Ko.eq_2<|jp @Ko.eq_3<|jp @Ko.eq_4<|jp @Ko.eq_5<|jp @Ko.eq_6<|jp @Ko.eq_7<|jp @Ko.eq_8<|jp @jM.eq_1<|jp @zP.eq_1<|jp @zP.eq_2<|jp @Bv.eq_1<|jp @gT2.eq_1<|@gT2.eq_2
end L2
namespace My
open PySem L2
theorem zY {α β:Type}{f:α -> β}{a:α}{l:List α}:List.map f (a::l)=f a::List.map f l:=by first|exact zau|exact zau _|simp
noncomputable def fV (i:Nat):Stmt:=PySem.Challenge.pw_inningsbook_k43_pairs.main.body.getD i (.Pass ⟨0,0,0,0⟩)
noncomputable abbrev Vr:Stmt:=fV 43
noncomputable abbrev Vs:Stmt:=fV 44
noncomputable abbrev Vt:Stmt:=fV 45
noncomputable abbrev M6:Stmt:=fV 37
noncomputable abbrev M7:Stmt:=aY (fV 40) 0
noncomputable abbrev GA:Stmt:=fV 46
noncomputable abbrev Vu:Stmt:=aY (fV 40) 1
noncomputable abbrev Vv:Stmt:=aY (fV 40) 2
noncomputable abbrev M8:Stmt:=aY (fV 40) 3
noncomputable abbrev Vw:Stmt:=aY (fV 40) 4
noncomputable abbrev Vx:Stmt:=aY (fV 40) 5
noncomputable abbrev Vy:Stmt:=aY (fV 40) 6
noncomputable abbrev Vz:Stmt:=aY (fV 40) 8
noncomputable abbrev VA:Stmt:=aY (fV 40) 9
noncomputable abbrev VB:Stmt:=aY (fV 28) 1
noncomputable abbrev VC:Stmt:=fV 33
noncomputable abbrev VD:Stmt:=aY (fV 40) 10
noncomputable abbrev VE:Stmt:=aY (fV 40) 7
noncomputable abbrev VF:Stmt:=aY (fV 40) 11
noncomputable abbrev ahV:Stmt:=aY (fV 28) 2
noncomputable abbrev VG:Stmt:=fV 17
noncomputable abbrev VH:Stmt:=fV 18
noncomputable abbrev VI:Stmt:=fV 19
noncomputable abbrev VJ:Stmt:=fV 30
noncomputable abbrev VL:Stmt:=fV 31
noncomputable abbrev VM:Stmt:=fV 32
noncomputable abbrev VN:Stmt:=fV 34
noncomputable abbrev VO:Stmt:=aY (fV 40) 12
noncomputable abbrev ahW:Stmt:=aY (fV 28) 0
noncomputable abbrev VP:Stmt:=aY (fV 40) 13
noncomputable abbrev VQ:Stmt:=fV 20
noncomputable abbrev VR:Stmt:=fV 21
noncomputable abbrev ahX:Stmt:=aY (fV 28) 8
noncomputable abbrev ahY:Stmt:=aY (fV 28) 4
noncomputable abbrev ahZ:Stmt:=aY (fV 28) 5
noncomputable abbrev ah0:Stmt:=aY (fV 28) 9
noncomputable abbrev ah1:Stmt:=aY (fV 28) 10
noncomputable abbrev VS:Stmt:=aY (fV 28) 11
noncomputable abbrev VT:Stmt:=aY (fV 40) 14
noncomputable abbrev ah2:Stmt:=aY (fV 28) 6
noncomputable abbrev ah3:Stmt:=aY (fV 28) 7
noncomputable abbrev M9:Stmt:=fV 41
noncomputable abbrev M_:Stmt:=fV 29
noncomputable abbrev VU:Stmt:=aY (fV 28) 12
noncomputable abbrev Na:Stmt:=aY (fV 40) 15
noncomputable abbrev VW:Stmt:=aY (fV 40) 16
noncomputable abbrev VX:Stmt:=aY (fV 40) 17
noncomputable abbrev abl:Stmt:=aY (fV 28) 3
noncomputable abbrev VY:Stmt:=aY (fV 40) 18
noncomputable abbrev VZ:Stmt:=aY (fV 40) 19
noncomputable abbrev V0:Stmt:=aY (fV 40) 20
noncomputable abbrev Nb:Stmt:=aY (fV 40) 23
noncomputable abbrev V1:Stmt:=aY (fV 40) 22
noncomputable abbrev V2:Stmt:=fV 48
noncomputable abbrev V3:Stmt:=fV 47
noncomputable abbrev V4:Stmt:=fV 49
noncomputable abbrev V5:Stmt:=fV 50
noncomputable abbrev V6:Stmt:=fV 51
noncomputable abbrev V7:Stmt:=aY (fV 40) 25
noncomputable abbrev V8:Stmt:=fV 52
noncomputable abbrev GB:Stmt:=fV 54
noncomputable abbrev V9:Stmt:=fV 25
noncomputable abbrev Nc:Stmt:=fV 23
noncomputable abbrev V_:Stmt:=fV 26
noncomputable abbrev Wa:Stmt:=fV 53
noncomputable abbrev Wb:Stmt:=fV 55
noncomputable abbrev dJ:Stmt:=aY (fV 3) 0
structure AdF where
 BC:Addr
 BD:Addr
 BE:Addr
 BF:Addr
 uh:Addr
 BG:Addr
 xR:Addr
 xS:Addr
 xT:Addr
 xU:Addr
 xV:Addr
 xW:Addr
 xX:Addr
 xY:Addr
 x_:Addr
 BH:Addr
 ya:Addr
 yb:Addr
 yc:Addr
 Je:Addr
 BI:Addr
 BJ:Addr
 BK:Addr
 BL:Addr
 BN:Addr
 BO:Addr
 BP:Addr
 yd:Addr
 Ey:Addr
 ye:Addr
 BQ:Addr
 BR:Addr
 Jf:Addr
 Jg:Addr
 Jh:Addr
 Ji:Addr
 Jj:Addr
 yf:Addr
 yg:Addr
 Jk:Addr
 Jl:Addr
 BS:Addr
 BU:Addr
 yh:Addr
 yi:Addr
 yj:Addr
 yk:Addr
 Jm:Addr
 ym:Addr
 yo:Addr
 yq:Addr
 yr:Addr
 yt:Addr
 BV:Addr
 BW:Addr
 BX:Addr
 BY:Addr
 BZ:Addr
 yu:Addr
 B0:Addr
 B3:Addr
 B4:Addr
 B5:Addr
 B6:Addr
 B7:Addr
 B8:Addr
 um:FuncData
 uo:FuncData
 uq:FuncData
 ur:FuncData
 uv:FuncData
 uw:FuncData
 ux:FuncData
 uy:FuncData
 uz:FuncData
 uA:FuncData
 uB:FuncData
 uC:FuncData
 uD:FuncData
 uE:FuncData
 uF:FuncData
 uG:FuncData
 uH:FuncData
 uI:FuncData
 uJ:FuncData
 B9:FuncData
 uK:FuncData
 uL:FuncData
 uM:FuncData
 uN:FuncData
 uO:FuncData
 uP:FuncData
 uQ:FuncData
 uR:FuncData
 B_:FuncData
 uS:FuncData
 uU:FuncData
 uV:FuncData
 Ca:FuncData
 Cb:FuncData
 Cc:FuncData
 Cd:FuncData
 Cf:FuncData
 uW:FuncData
 uX:FuncData
 Cg:FuncData
 Ci:FuncData
 uY:FuncData
 uZ:FuncData
 u5:FuncData
 u6:FuncData
 u9:FuncData
 u_:FuncData
 Cj:FuncData
 vc:FuncData
 vd:FuncData
 ve:FuncData
 vf:FuncData
 vg:FuncData
 vh:FuncData
 vj:FuncData
 vm:FuncData
 vn:FuncData
 vo:FuncData
 vp:FuncData
 vq:FuncData
 vt:FuncData
 vz:FuncData
 vA:FuncData
 vD:FuncData
 vE:FuncData
 oA:FuncData
 aL:Addr
 bq:Addr
 jB:Tok
 z6:Tok
 iV:Tok
 iW:Tok
 nq:Tok
 iX:Tok
 jC:Tok
 kW:Tok
 nu:Tok
 GC:Tok
 kX:Tok
 iY:Tok
 jD:Tok
 nv:Tok
structure Ad extends AdF where
 aX:Addr
 bK:Addr
 bf:Addr
 eE:FuncData
 i8:Tok
noncomputable def aG (a:Ad):Str->Addr:=λx=>if x="Innings" then a.aL else if x="Match" then a.bq else if x="NotLet" then a.bK else 0
noncomputable def er (a:Ad):List (Str×Addr×Addr):=[("NotLet",a.bK,a.bf)]
structure TxF (K:W.Frag) (mg:Str->Option Value) (a:AdF):Prop where
 ah4:mg "any"=none
 abm:mg "bool"=none
 abn:mg "dict"=none
 yv:mg "int"=none
 cM:mg "isinstance"=none
 jj:mg "len"=none
 kY:mg "list"=none
 z8:mg "range"=none
 Ck:mg "sorted"=none
 Wc:mg "str"=none
 We:mg "sum"=none
 ny:mg "tuple"=none
 Wf:mg "zip"=none
 Cm:mg "FOLLOW_AT"=some (.int 7 a.jB)
 abo:mg "FOUR"=some (.int 4 a.z6)
 z9:mg "INNINGS_AT"=some (.int 6 a.iV)
 z_:mg "IS_CROSSED"=some (.int 6 a.iW)
 yw:mg "IS_FAIR"=some (.int 4 a.nq)
 pM:mg "LONG_MATCH"=some (.int 4 a.iX)
 Cn:mg "NOBALL_AT"=some (.int 4 a.jC)
 Ez:mg "OVERS_AT"=some (.int 1 a.kW)
 Jo:mg "OVER_AT"=some (.int 0 a.nu)
 ah5:mg "SIX"=some (.int 6 a.GC)
 EA:mg "SPELL_AT"=some (.int 2 a.kX)
 pN:mg "TEAM_COUNT"=some (.int 2 a.iY)
 qY:mg "TEAM_RUNS"=some (.int 0 a.jD)
 Jp:mg "WIDE_AT"=some (.int 3 a.nv)
 Wg:oq K mg "_law_drawn" Vr ["_law_script"] a.BC a.um
 qZ:oq K mg "_law_pick" Vs ["_law_draw","_law_many"] a.BD a.uo
 Wh:oq K mg "_law_rules" Vt ["_law_draw"] a.BE a.uq
 Nd:oq K mg "names_told" M6 ["teams","word"] a.BF a.ur
 Wi:lG K a.bq "__init__" "Match.__init__" M7 ["self","rules","teams"] a.uh a.uv
 Wj:oq K mg "_law_teams" GA ["_law_draw","_law_side"] a.BG a.uw
 jE:lG K a.bq "going" "Match.going" Vu ["self"] a.xR a.ux
 Co:lG K a.bq "most_innings" "Match.most_innings" Vv ["self"] a.xS a.uy
 Nf:lG K a.bq "total_of" "Match.total_of" M8 ["self","side"] a.xT a.uz
 Cp:lG K a.bq "lead_of" "Match.lead_of" Vw ["self","side"] a.xU a.uA
 GD:lG K a.bq "is_done" "Match.is_done" Vx ["self"] a.xV a.uB
 GF:lG K a.bq "next_side" "Match.next_side" Vy ["self"] a.xW a.uC
 GG:lG K a.bq "side_to_start" "Match.side_to_start" Vz ["self","team"] a.xX a.uD
 Ng:lG K a.bq "start_refusal" "Match.start_refusal" VA ["self","entry"] a.xY a.uE
 q8:lG K a.aL "stands" "Innings.stands" VB ["self","name"] a.x_ a.uF
 Wk:oq K mg "swap_refusal_within" VC ["innings","old"] a.BH a.uG
 Nh:lG K a.bq "swap_refusal" "Match.swap_refusal" VD ["self","old","new"] a.ya a.uH
 Ni:lG K a.bq "may_follow" "Match.may_follow" VE ["self"] a.yb a.uI
 Nj:lG K a.bq "follow_refusal" "Match.follow_refusal" VF ["self"] a.yc a.uJ
 Nk:lG K a.aL "has_gap" "Innings.has_gap" ahV ["self"] a.Je a.B9
 Wl:oq K mg "rope_goes" VG ["kind","runs"] a.BI a.uK
 Wm:oq K mg "way_goes" VH ["kind","runs","rope","way"] a.BJ a.uL
 Wn:oq K mg "ball_fault" VI ["entry"] a.BK a.uM
 Wo:oq K mg "ball_refusal" VJ ["innings","entry"] a.BL a.uN
 Wq:oq K mg "in_refusal" VL ["innings","batting","name"] a.BN a.uO
 Wr:oq K mg "bowl_refusal" VM ["innings","fielding","spell","name"] a.BO a.uP
 Ws:oq K mg "refusal_within" VN ["innings","rules","batting","fielding","entry"] a.BP a.uQ
 Nl:lG K a.bq "refusal" "Match.refusal" VO ["self","entry"] a.yd a.uR
 ah6:lG K a.aL "__init__" "Innings.__init__" ahW ["self","side","facing","other","bowler"] a.Ey a.B_
 Nm:lG K a.bq "begin" "Match.begin" VP ["self","entry"] a.ye a.uS
 Wt:oq K mg "runs_by" VQ ["rules","kind","runs"] a.BQ a.uU
 Nn:oq K mg "ball_sums" VR ["rules","entry"] a.BR a.uV
 abp:lG K a.aL "out_by" "Innings.out_by" ahX ["self","entry"] a.Jf a.Ca
 Np:lG K a.aL "change_ends" "Innings.change_ends" ahY ["self"] a.Jg a.Cb
 SW:lG K a.aL "leave" "Innings.leave" ahZ ["self","name"] a.Jh a.Cc
 abq:lG K a.aL "fall" "Innings.fall" ah0 ["self","name","end"] a.Ji a.Cd
 abr:lG K a.aL "count_fair" "Innings.count_fair" ah1 ["self","over"] a.Jj a.Cf
 Nq:lG K a.aL "play" "Innings.play" VS ["self","rules","entry"] a.yf a.uW
 Nr:lG K a.bq "play_ball" "Match.play_ball" VT ["self","entry"] a.yg a.uX
 abt:lG K a.aL "come_in" "Innings.come_in" ah2 ["self","name"] a.Jk a.Cg
 abu:lG K a.aL "bowl_next" "Innings.bowl_next" ah3 ["self","name"] a.Jl a.Ci
 Wu:oq K mg "swapped" M9 ["players","old","new"] a.BS a.uY
 Wv:oq K mg "renamed" M_ ["told","old","new"] a.BU a.uZ
 Nt:lG K a.aL "rename" "Innings.rename" VU ["self","old","new"] a.yh a.u5
 Nu:lG K a.bq "swap_player" "Match.swap_player" Na ["self","old","new"] a.yi a.u6
 Nv:lG K a.bq "close" "Match.close" VW ["self"] a.yj a.u9
 Nx:lG K a.bq "do" "Match.do" VX ["self","entry"] a.yk a.u_
 abv:lG K a.aL "has_left" "Innings.has_left" abl ["self","players"] a.Jm a.Cj
 Ny:lG K a.bq "ending_due" "Match.ending_due" VY ["self","going"] a.ym a.vc
 Nz:lG K a.bq "tell" "Match.tell" VZ ["self","entry"] a.yo a.vd
 NC:lG K a.bq "state" "Match.state" V0 ["self"] a.yq a.ve
 GH:lG K a.bq "players" "Match.players" Nb ["self"] a.yr a.vf
 ND:lG K a.bq "turn" "Match.turn" V1 ["self"] a.yt a.vg
 Ww:oq K mg "_law_opening" V2 ["_law_draw","_law_match"] a.BV a.vh
 Wx:oq K mg "_law_ball" V3 ["_law_draw","_law_two"] a.BW a.vj
 Wy:oq K mg "_law_entry" V4 ["_law_draw","_law_match"] a.BX a.vm
 Wz:oq K mg "_law_played" V5 ["_law_draw"] a.BY a.vn
 WA:oq K mg "_law_part" V6 ["_law_draw","_law_log"] a.BZ a.vo
 NF:lG K a.bq "log" "Match.log" V7 ["self"] a.yu a.vp
 WB:oq K mg "_law_counts" V8 ["_law_rules_here","_law_entry_here"] a.B0 a.vq
 WC:oq K mg "_law_due" GB ["_law_rules_here","_law_log"] a.B3 a.vt
 WD:oq K mg "team_part" V9 ["rules","entry"] a.B4 a.vz
 WE:oq K mg "added" Nc ["one","two"] a.B5 a.vA
 WG:oq K mg "pairs" V_ ["rules","log"] a.B6 a.vD
 q_:oq K mg "_law_same" Wa ["_law_found","_law_due_here"] a.B7 a.vE
 NG:oq K mg "law" Wb ["_law_script"] a.B8 a.oA
 cL:Vf K mg "Innings" a.aL a.Ey
 ah7:cy K a.aL "side"
 ah8:cy K a.aL "facing"
 ah9:cy K a.aL "other"
 aia:cy K a.aL "bowler"
 aib:cy K a.aL "ahead"
 aic:cy K a.aL "total"
 aid:cy K a.aL "wickets"
 aie:cy K a.aL "overs"
 aif:cy K a.aL "balls"
 aih:cy K a.aL "ending"
 abw:cy K a.aL "outs"
 abx:cy K a.aL "spells"
 ig:Vf K mg "Match" a.bq a.uh
 aii:cy K a.bq "rules"
 aij:cy K a.bq "sides"
 aik:cy K a.bq "known"
 ail:cy K a.bq "played"
 aim:cy K a.bq "followed"
 ain:cy K a.bq "closed"
 aio:cy K a.bq "balls_told"
structure Txt (K:W.Frag) (mg:Str->Option Value) (a:Ad):Prop extends TxF K mg a.toAdF where
 Er:aaE K mg a.aX (er a)
 gr:EC K mg a.aX "NotLet" a.bK a.bf dJ a.eE ["self","words","rule","number"]
 yx:eO K a.eE ["self","words","rule","number"] [.int 0 a.i8]
 mR:W.findIn K (.ref a.bK) "rule"=some none
 j9:W.findIn K (.ref a.bK) "number"=some none
 Jq:a.bK≠a.aX
theorem gF {K:W.Frag}{cl:Str->Addr}{E:XK}{x f:Str}{C:Addr}(e:cl x=C)(h:vV K C)(n:cy K C f):fq ⟨K,cl,E⟩ [x] f:=λc hc=>by
 cases zbs.mp hc
 subst e;exact⟨h,n⟩
theorem fW {N P:List Str}{sc:Scope}(h:sc.kind = .function/\sc.isCoroutine=false/\sc.isGenerator=false/\N.take P.length=P:=by exact⟨rfl,rfl,rfl,rfl⟩)(d:N.Nodup/\(∀x∈P,sc.names.lookup x=some .local\/sc.names.lookup x=some .cell)/\∀y∈sc.names,y.2 ≠ .free:=by decide +kernel):au N P sc:=⟨h.1,h.2.1,h.2.2.1,d.1,h.2.2.2,d.2.1,d.2.2⟩
section
variable {P:Program}{w:World}{K:W.Frag}{mg:Str->Option Value}{base:Heap}{a:Ad}{E:XK}
theorem aM:aG a "Innings"=a.aL:=by unfold aG;rw[if_pos rfl]
theorem aQ (T:Txt K mg a):vV K (aG a "Innings"):=by rw[aM];exact T.cL.c
theorem EE (T:Txt K mg a):Mk K (aG a "Innings") a.Ey:=by rw[aM];exact T.cL.k
theorem Cq (T:Txt K mg a):mg "Innings"=some (.ref (aG a "Innings")):=by rw[aM];exact T.cL.m
theorem mS (T:Txt K mg a):fq ⟨K,aG a,E⟩ ["Innings"] "side" := gF aM T.cL.c T.ah7
theorem iI (T:Txt K mg a):fq ⟨K,aG a,E⟩ ["Innings"] "facing" := gF aM T.cL.c T.ah8
theorem mT (T:Txt K mg a):fq ⟨K,aG a,E⟩ ["Innings"] "other" := gF aM T.cL.c T.ah9
theorem kZ (T:Txt K mg a):fq ⟨K,aG a,E⟩ ["Innings"] "bowler" := gF aM T.cL.c T.aia
theorem vF (T:Txt K mg a):fq ⟨K,aG a,E⟩ ["Innings"] "ahead" := gF aM T.cL.c T.aib
theorem Aa (T:Txt K mg a):fq ⟨K,aG a,E⟩ ["Innings"] "total" := gF aM T.cL.c T.aic
theorem EF (T:Txt K mg a):fq ⟨K,aG a,E⟩ ["Innings"] "wickets" := gF aM T.cL.c T.aid
theorem vG (T:Txt K mg a):fq ⟨K,aG a,E⟩ ["Innings"] "overs" := gF aM T.cL.c T.aie
theorem qD (T:Txt K mg a):fq ⟨K,aG a,E⟩ ["Innings"] "balls" := gF aM T.cL.c T.aif
theorem vH (T:Txt K mg a):fq ⟨K,aG a,E⟩ ["Innings"] "ending" := gF aM T.cL.c T.aih
theorem nA (T:Txt K mg a):fq ⟨K,aG a,E⟩ ["Innings"] "outs" := gF aM T.cL.c T.abw
theorem pO (T:Txt K mg a):fq ⟨K,aG a,E⟩ ["Innings"] "spells" := gF aM T.cL.c T.abx
theorem aU:aG a "Match"=a.bq:=by unfold aG;rw[if_neg (by decide)];rw[if_pos rfl]
theorem aA (T:Txt K mg a):vV K (aG a "Match"):=by rw[aU];exact T.ig.c
theorem NH (T:Txt K mg a):Mk K (aG a "Match") a.uh:=by rw[aU];exact T.ig.k
theorem Jr (T:Txt K mg a):mg "Match"=some (.ref (aG a "Match")):=by rw[aU];exact T.ig.m
theorem qE (T:Txt K mg a):fq ⟨K,aG a,E⟩ ["Match"] "rules" := gF aU T.ig.c T.aii
theorem jk (T:Txt K mg a):fq ⟨K,aG a,E⟩ ["Match"] "sides" := gF aU T.ig.c T.aij
theorem EG (T:Txt K mg a):fq ⟨K,aG a,E⟩ ["Match"] "known" := gF aU T.ig.c T.aik
theorem jO (T:Txt K mg a):fq ⟨K,aG a,E⟩ ["Match"] "played" := gF aU T.ig.c T.ail
theorem Ab (T:Txt K mg a):fq ⟨K,aG a,E⟩ ["Match"] "followed" := gF aU T.ig.c T.aim
theorem EH (T:Txt K mg a):fq ⟨K,aG a,E⟩ ["Match"] "closed" := gF aU T.ig.c T.ain
theorem EI (T:Txt K mg a):fq ⟨K,aG a,E⟩ ["Match"] "balls_told" := gF aU T.ig.c T.aio
theorem nB:aG a "NotLet"=a.bK:=by unfold aG;rw[if_neg (by decide)];rw[if_neg (by decide)];rw[if_pos rfl]
theorem yy (T:Txt K mg a):rX K (aG a "NotLet") a.bf (.ref a.aX::rW):=by rw[nB];exact T.gr.M
theorem EJ (T:Txt K mg a):mg "NotLet"=some (.ref (aG a "NotLet")):=by rw[nB];exact T.gr.m
theorem oE:au ["self","words","rule","number"] ["self","words","rule","number"] (ak dJ):=fW
theorem oF (T:Txt K mg a):aO P w K mg base eS 1 a.bf a.eE ["self","words","rule","number"] (Vg (aG a "NotLet") 3 (gE2 "rule" "number")):=by
 rw[nB];refine T.gr.ok oE (λvs H Q E h=>?_) (λq fC A outer s H vs Q E hr h=>?_)
 ·obtain⟨b,xs,rfl,hl,_⟩:=h
  simp[hl]
 ·obtain⟨b,xs,rfl,hl,ha,k⟩:=h
  match xs,hl,k with
  |[x,y,z],_,k =>
   refine⟨_,sJ (FF (Lu T.Er.EB rfl T.Er.m (oS (pv 0) (oS (pv 1) Dp)))) (sJ (Rb (pv 0) (pv 2)) (FE (Rc (pv 0) (pv 3)))),?_⟩
   refine⟨_,rfl,_,rfl,b,_,_,_,none,x,rfl,ha,T.gr.M,?_⟩
   refine⟨_,rfl,_,rfl,b,_,_,_,rfl,ha,T.gr.M,T.mR,λd nd=>?_⟩
   have nda:d≠b:=(fF ha nd).symm
   refine⟨_,rfl,_,rfl,b,_,_,_,d,[(("rule" : Str),y)],rfl,av,by rw[aq nda,av],(show 1<1000 by decide),T.gr.M,T.j9,?_⟩
   have e1:gA "number" z [(("rule" : Str),y)]=[(("rule" : Str),y),("number",z)]:=by
    show (if ("rule" : Str)="number" then _ else _)=_
    rw[if_neg (by decide +kernel)]
    rfl
   rw[e1];refine k d _ nd (by rw[aq nda.symm,av]) av λb o eb nb=>?_
   have nbd:b≠d:=fF eb nd
   rw[aq nbd,aq nb,aq nbd];exact eb
theorem NI (T:Txt K mg a):mg "NotLet"=some (.ref a.bK):=(T.Er.all _ (zaR (i:=0) (l:=er a) rfl)).1
theorem Js (T:Txt K mg a):sf ⟨K,aG a,E⟩ a.bK ["NotLet"]:=by
 intro c hc;simp only[zap,zaC,or_false] at hc;rcases hc with rfl
 ·exact⟨_,_,yy T,by show (Value.ref (aG a "NotLet")::_).contains _=true;rw[nB];exact MD⟩
theorem f9 (T:Txt K mg a):dD K (aG a "Match") "going" a.xR:=by rw[aU];exact T.jE.M
theorem Ac (T:Txt K mg a):dD K (aG a "Match") "most_innings" a.xS:=by rw[aU];exact T.Co.M
theorem SX (T:Txt K mg a):dD K (aG a "Match") "total_of" a.xT:=by rw[aU];exact T.Nf.M
theorem Ae (T:Txt K mg a):dD K (aG a "Match") "lead_of" a.xU:=by rw[aU];exact T.Cp.M
theorem GI (T:Txt K mg a):dD K (aG a "Match") "is_done" a.xV:=by rw[aU];exact T.GD.M
theorem GJ (T:Txt K mg a):dD K (aG a "Match") "next_side" a.xW:=by rw[aU];exact T.GF.M
theorem GK (T:Txt K mg a):dD K (aG a "Match") "side_to_start" a.xX:=by rw[aU];exact T.GG.M
theorem SY (T:Txt K mg a):dD K (aG a "Match") "start_refusal" a.xY:=by rw[aU];exact T.Ng.M
theorem nD (T:Txt K mg a):dD K (aG a "Innings") "stands" a.x_:=by rw[aM];exact T.q8.M
theorem S_ (T:Txt K mg a):dD K (aG a "Match") "swap_refusal" a.ya:=by rw[aU];exact T.Nh.M
theorem Tc (T:Txt K mg a):dD K (aG a "Match") "may_follow" a.yb:=by rw[aU];exact T.Ni.M
theorem Td (T:Txt K mg a):dD K (aG a "Match") "follow_refusal" a.yc:=by rw[aU];exact T.Nj.M
theorem EL (T:Txt K mg a):dD K (aG a "Innings") "has_gap" a.Je:=by rw[aM];exact T.Nk.M
theorem Te (T:Txt K mg a):dD K (aG a "Match") "refusal" a.yd:=by rw[aU];exact T.Nl.M
theorem Tf (T:Txt K mg a):dD K (aG a "Match") "begin" a.ye:=by rw[aU];exact T.Nm.M
theorem aby (T:Txt K mg a):dD K (aG a "Innings") "out_by" a.Jf:=by rw[aM];exact T.abp.M
theorem EM (T:Txt K mg a):dD K (aG a "Innings") "change_ends" a.Jg:=by rw[aM];exact T.Np.M
theorem NJ (T:Txt K mg a):dD K (aG a "Innings") "leave" a.Jh:=by rw[aM];exact T.SW.M
theorem abz (T:Txt K mg a):dD K (aG a "Innings") "fall" a.Ji:=by rw[aM];exact T.abq.M
theorem abA (T:Txt K mg a):dD K (aG a "Innings") "count_fair" a.Jj:=by rw[aM];exact T.abr.M
theorem Tg (T:Txt K mg a):dD K (aG a "Innings") "play" a.yf:=by rw[aM];exact T.Nq.M
theorem Th (T:Txt K mg a):dD K (aG a "Match") "play_ball" a.yg:=by rw[aU];exact T.Nr.M
theorem abC (T:Txt K mg a):dD K (aG a "Innings") "come_in" a.Jk:=by rw[aM];exact T.abt.M
theorem abD (T:Txt K mg a):dD K (aG a "Innings") "bowl_next" a.Jl:=by rw[aM];exact T.abu.M
theorem Ti (T:Txt K mg a):dD K (aG a "Innings") "rename" a.yh:=by rw[aM];exact T.Nt.M
theorem Tj (T:Txt K mg a):dD K (aG a "Match") "swap_player" a.yi:=by rw[aU];exact T.Nu.M
theorem Tn (T:Txt K mg a):dD K (aG a "Match") "close" a.yj:=by rw[aU];exact T.Nv.M
theorem To (T:Txt K mg a):dD K (aG a "Match") "do" a.yk:=by rw[aU];exact T.Nx.M
theorem abE (T:Txt K mg a):dD K (aG a "Innings") "has_left" a.Jm:=by rw[aM];exact T.abv.M
theorem Tp (T:Txt K mg a):dD K (aG a "Match") "ending_due" a.ym:=by rw[aU];exact T.Ny.M
theorem Tq (T:Txt K mg a):dD K (aG a "Match") "tell" a.yo:=by rw[aU];exact T.Nz.M
theorem Tt (T:Txt K mg a):dD K (aG a "Match") "state" a.yq:=by rw[aU];exact T.NC.M
theorem GL (T:Txt K mg a):dD K (aG a "Match") "players" a.yr:=by rw[aU];exact T.GH.M
theorem Tu (T:Txt K mg a):dD K (aG a "Match") "turn" a.yt:=by rw[aU];exact T.ND.M
theorem Tv (T:Txt K mg a):dD K (aG a "Match") "log" a.yu:=by rw[aU];exact T.NF.M
end
local macro_rules
 | `(tactic|simp?[$x,*])=>`(tactic|simp only[↓bp,bx,simprocAttr,$x,*])
local macro_rules
 | `(tactic|exists $es,*)=>`(tactic|repeat' first|exact c9 _|exact ZY|exact ZZ|exact tM|refine kN ?_ ?_|refine jA ?_ ?_|refine jK ?_|exact mO|refine agC ?_ ?_|refine kQ ?_|refine qT ?_ ?_ ?_|refine amH _ (by assumption) ?_|refine gC (by first|exact RA|exact Ma|exact L6|exact L7|exact agx|exact agy|exact RB|exact F8) ?_ ?_ (iF _)|refine Z2 ?_|refine LX (by first|exact agA|exact agw|exact agv|exact agu|exact agz|exact aoT) ?_ ?_|refine RP ?_|exact DT|exact xE|refine Z3 ?_|refine Rx ?_|refine agD ?_ ?_ ?_|refine RG ?_|exact RE|refine Z1 ?_ ?_ ?_|refine jb (by first|exact RA|exact Ma|exact L6|exact L7|exact agx|exact agy|exact RB|exact F8) ?_ ?_ (iF _)|refine Z0 ?_ ?_|refine Rv ?_|refine U9 ?_ ?_|refine L4 ?_|refine DX ?_|refine zm ?_ ?_|refine ags ?_ ?_|refine RX ?_|refine aae ?_ ?_|refine aac ?_ ?_|refine tX ?_ ?_|exact F_|exact RY|refine RZ ?_|refine agr agB ?_|refine L1 ?_ $[| refine $es]* | refine tK ?_|refine Kd.t ?_)
section
variable {P:Program}{w:World}{K:W.Frag}{mg:Str->Option Value}{base:Heap}{a:Ad}
noncomputable abbrev WH:List Str:=["_law_script","_law_cells"]
theorem NK:au WH ["_law_script"] (ak Vr):=fW
noncomputable def Cr:Fn:=dI WH (ao (aR 1 (ai c_ (bA pe (af (aa 0) aj)) (ai MW (jH (af (mC (.int 0)) aj)) (bA tT (af (ai (Bx false) (aa 0) (jH aj)) aj)))))
   (aE (pC [((mC (.str "cells")),(aa 1)),((mC (.str "at")),(mC (.int 0))),((mC (.str "left")),(mC (.int 60))),((mC (.str "number")),(ai Ry (ai aZ (aa 1) (mC (.int 0))) (mC (.int 2)))),((mC (.str "digits")),(ai (cE false) (ai qt (ai aZ (aa 1) (mC (.int 0))) (mC (.int 2))) (mC (.int 0))))])))
theorem abF (T:Txt K mg a):aO P w K mg base eS 2 a.BC a.um ["_law_script"] (dS K (aG a) 1 Cr):=
 aW T.Wg.F NK λ_ _ _ _ _ _=>(by have:=NK.nd;exists (cK qw T.kY zaS ?_),(LX aho ?_ ?_),(cK Bh T.yv zbE ?_),(jb ahn ?_ ?_ (iF _)),(zE ?_),(zD ?_ ?_ ?_),om)
noncomputable abbrev WI:List Str:=["_law_draw","_law_many","_law_cells","_law_value","_law_k","_law_m"]
theorem NL:au WI ["_law_draw","_law_many"] (ak Vs):=fW
noncomputable def bM:Fn:=dI WI (ao (aR 2 (ai jI (aa 0) (mC (.str "cells"))))
   (ao (cF (mB (ai jI (aa 0) (mC (.str "digits"))))
   (ao (aR 3 (ai qt (ai jI (aa 0) (mC (.str "number"))) (aa 1)))
   (ao (nQ (aa 0) (mC (.str "number")) (ai Ry (ai jI (aa 0) (mC (.str "number"))) (aa 1)))
   (ao (nQ (aa 0) (mC (.str "left")) (ai dw (ai jI (aa 0) (mC (.str "left"))) (mC (.int 1))))
   (ao (cF (mB (ai (cE false) (ai jI (aa 0) (mC (.str "left"))) (mC (.int 0))))
   (ao (nQ (aa 0) (mC (.str "at")) (ai c_ (ai jI (aa 0) (mC (.str "at"))) (mC (.int 1))))
   (ao (nQ (aa 0) (mC (.str "number")) (ai aZ (aa 2) (ai qt (ai jI (aa 0) (mC (.str "at"))) (bA gy (af (aa 2) aj)))))
   (nQ (aa 0) (mC (.str "left")) (mC (.int 60)))))
   aB)
   (aE (aa 3))))))
   aB)
   (ao (nQ (aa 0) (mC (.str "at")) (ai c_ (ai jI (aa 0) (mC (.str "at"))) (mC (.int 1))))
   (ao (aR 4 (ai jI (aa 0) (mC (.str "at"))))
   (ao (aR 5 (ai qt (ai tR (ai c_ (ai c_ (ai qt (ai aZ (aa 2) (ai qt (aa 4) (bA gy (af (aa 2) aj)))) (mC (.int 2147483629))) (ai tR (ai tR (aa 4) (aa 4)) (mC (.int 7919)))) (mC (.int 11))) (mC (.int 48271))) (mC (.int 2147483647))))
   (ao (aR 5 (ai qt (ai tR (aa 5) (aa 5)) (mC (.int 1999999973))))
   (aE (ai qt (ai Ry (aa 5) (mC (.int 7))) (aa 1)))))))))
theorem oG (T:Txt K mg a):aO P w K mg base eS 2 a.BD a.uo ["_law_draw","_law_many"] (dS K (aG a) 2 bM):=
 aW T.qZ.F NL λ_ _ _ _ _ _=>(by have:=NL.nd;exists (Mg ?_ ?_),(zx ?_ ?_ ?_),(b_ jg T.jj zaL ?_))
noncomputable abbrev WJ:List Str:=["_law_draw","_law_rules_here","_law_side"]
theorem NO:au WJ ["_law_draw"] (ak Vt):=fW
noncomputable def GN:Fn:=dI WJ (ao (aR 1 (o9 (af (ai c_ (mC (.int 1)) (dR 2 bM (af (aa 0) (af (mC (.int 6)) aj)))) (af (dR 2 bM (af (aa 0) (af (mC (.int 5)) aj))) (af (dR 2 bM (af (aa 0) (af (mC (.int 3)) aj))) (af (dR 2 bM (af (aa 0) (af (mC (.int 3)) aj))) (af (dR 2 bM (af (aa 0) (af (mC (.int 3)) aj))) aj)))))))
   (ao (cF (mB (ai (cE false) (dR 2 bM (af (aa 0) (af (mC (.int 4)) aj))) (mC (.int 0))))
   (Eb (jH (af (dR 2 bM (af (aa 0) (af (mC (.int 10)) aj))) (af (dR 2 bM (af (aa 0) (af (mC (.int 10)) aj))) aj))) (M4 (aa 1) (mC (.int 3)) (mC (.int 5))))
   aB)
   (ao (aR 2 (ai aZ (jH (af (ai c_ (mC (.int 2)) (dR 2 bM (af (aa 0) (af (mC (.int 4)) aj)))) (af (mC (.int 11)) aj))) (bA tT (af (ai (cE false) (dR 2 bM (af (aa 0) (af (mC (.int 8)) aj))) (mC (.int 0))) aj))))
   (aE (bA mK (af (ai c_ (aa 1) (jH (af (aa 2) (af (ai c_ (mC (.int 1)) (dR 2 bM (af (aa 0) (af (mC (.int 2)) aj)))) (af (ai tR (dR 2 bM (af (aa 0) (af (mC (.int 2)) aj))) (mC (.int 5))) aj))))) aj))))))
theorem abG (T:Txt K mg a):aO P w K mg base eS 3 a.BE a.uq ["_law_draw"] (dS K (aG a) 1 GN):=
 aW T.Wh.F NO λ_ _ _ _ _ _=>(by have:=NO.nd;exists (cP (oG T) T.qZ ?_),(abj ?_ ?_ ?_),(cK Bh T.yv zbE ?_),(cK zv T.ny zbx ?_))
noncomputable abbrev WK:List Str:=["teams","word","names","name","players"]
theorem Af:au WK ["teams","word"] (ak M6):=fW
noncomputable def Ct:Fn:=dI WK (ao (cF (mB (ai (cE false) (aa 1) (mC (.str "team"))))
   (aE (fu (tZ iL (aa 0)) [] 2 (lF 2 (dH (bI 0) (dH (bI 1) qy))) fY (aa 0)))
   aB)
   (ao (aR 2 (o9 aj))
   (ao (Bm (tZ iL (aa 0)) (lF 2 (dH (bI 3) (dH (bI 4) qy)))
   (eV (tV IL RL (aa 2) (af (aa 4) aj))))
   (aE (aa 2)))))
theorem NP (T:Txt K mg a):aO P w K mg base eS 2 a.BF a.ur ["teams","word"] (dS K (aG a) 2 Ct):=
 aW T.Nd.F Af λ_ _ _ _ _ _=>(by have:=Af.nd;exists (ia (F:=[]) (T:=["name","players"]) (fr:=[]) (Jb M6 (by decide +kernel)) ?_ (λ_ _ _ _ _=>?_) (λ_ _ _ _ _=>?_) (λ_ _ _ _ _=>?_)),(n_ (n:=2) ?_),(fU 0 (show (["name","players"]:List Str).Nodup by decide +kernel)),(fU 1 (show (["name","players"]:List Str).Nodup by decide +kernel)),(t6 zcz ?_ ?_ ?_),(fU 3 Af.nd),(fU 4 Af.nd),(qx zbg PySem.F.slot_list_extend PySem.F.type_list_extend nZ Mi ?_ ?_))
noncomputable abbrev WL:List Str:=["self","rules","teams"]
theorem NQ:au WL ["self","rules","teams"] (ak M7):=fW
noncomputable def GO:Fn:=dI WL (ao (cu ["Match"] "rules" (aa 0) (aa 1))
   (ao (cu ["Match"] "sides" (aa 0) (fu (tZ iL (aa 2)) [] 2 (lF 2 (dH (bI 0) (dH (bI 1) qy))) fY (dO (af (aa 0) (af (bA pe (af (aa 1) aj)) aj)))))
   (ao (cu ["Match"] "known" (aa 0) (dR 2 Ct (af (aa 2) (af (mC (.str "player")) aj))))
   (ao (cu ["Match"] "played" (aa 0) (o9 aj))
   (ao (cu ["Match"] "followed" (aa 0) (mC (.bl false)))
   (ao (cu ["Match"] "closed" (aa 0) (mC (.bl false)))
   (cu ["Match"] "balls_told" (aa 0) (o9 aj))))))))
theorem abH (T:Txt K mg a):aO P w K mg base eS 3 a.uh a.uv ["self","rules","teams"] (dS K (aG a) 3 GO):=
 aW T.Wi.F NQ λ_ _ _ _ _ _=>(by have:=NQ.nd;exists (a_ (qE T) ?_ ?_),(a_ (jk T) ?_ ?_),(ia (F:=[]) (T:=["name","players"]) (fr:=[]) (Jb M7 (by decide +kernel)) ?_ (λ_ _ _ _ _=>?_) (λ_ _ _ _ _=>?_) (λ_ _ _ _ _=>?_)),(n_ (n:=2) ?_),(fU 0 (show (["name","players"]:List Str).Nodup by decide +kernel)),(fU 1 (show (["name","players"]:List Str).Nodup by decide +kernel)),(cK qw T.kY zaS ?_),(a_ (EG T) ?_ ?_),(cP (NP T) T.Nd ?_),(a_ (jO T) ?_ ?_),(a_ (Ab T) ?_ ?_),(a_ (EH T) ?_ ?_),(a_ (EI T) ?_ ?_))
noncomputable abbrev WM:List Str:=["_law_draw","_law_side","_law_letters","_law_first","_law_one","_law_other","_law_names"]
theorem Ag:au WM ["_law_draw","_law_side"] (ak GA):=fW
noncomputable def GP:Fn:=dI WM (ao (aR 2 (mC (.str "abcdfghjklmp")))
   (ao (aR 3 (dR 2 bM (af (aa 0) (af (mC (.int 12)) aj))))
   (ao (aR 4 (fu (xH (af (aa 1) aj)) [2,0,3] 1 (bI 3) fY (ai c_ (ai tR (mC (.str "t")) (ai c_ (mC (.int 1)) (dR 2 bM (af (aa 1) (af (mC (.int 3)) aj))))) (ai aZ (aa 0) (ai qt (ai c_ (aa 2) (aa 3)) (mC (.int 12)))))))
   (ao (aR 5 (fu (xH (af (aa 1) aj)) [2,0,3] 1 (bI 3) fY (ai c_ (ai c_ (mC (.str "v")) (ai aZ (aa 0) (ai qt (ai c_ (aa 2) (aa 3)) (mC (.int 12))))) (ai tR (mC (.str "v")) (dR 2 bM (af (aa 1) (af (mC (.int 3)) aj)))))))
   (ao (aR 6 (jH (af (ai aZ (aa 4) (mC (.int 0))) (af (mC (.str "vx")) aj))))
   (ao (cF (mB (ai (cE false) (dR 2 bM (af (aa 0) (af (mC (.int 2)) aj))) (mC (.int 0))))
   (aR 6 (jH (af (mC (.str "tz")) (af (ai aZ (aa 5) (P5 rK (mC (.int 1)))) aj))))
   aB)
   (aE (jH (af (dO (af (ai aZ (aa 6) (mC (.int 0))) (af (aa 4) aj))) (af (dO (af (ai aZ (aa 6) (mC (.int 1))) (af (aa 5) aj))) aj))))))))))
theorem abI (T:Txt K mg a):aO P w K mg base eS 3 a.BG a.uw ["_law_draw","_law_side"] (dS K (aG a) 2 GP):=
 aW T.Wj.F Ag λ_ _ _ _ _ _=>(by have:=Ag.nd;exists (cP (oG T) T.qZ ?_),(zB (target:=.Name "_law_k" _) (i0:=4) (F:=["_law_letters","_law_draw","_law_first"]) (T:=["_law_k"]) (fr:=[2,0,3]) (Jb GA (by decide +kernel)) ?_ (λ_ _ _ _ _=>?_) (λ_ _ _ _ _=>?_) (λ_ _ _ _ _=>?_) Ag.nd rfl rfl rfl),(zA T.z8 ?_),(fU 3 (show (["_law_letters","_law_draw","_law_first","_law_k"]:List Str).Nodup by decide +kernel)),(zB (target:=.Name "_law_k" _) (i0:=5) (F:=["_law_letters","_law_draw","_law_first"]) (T:=["_law_k"]) (fr:=[2,0,3]) (Jb GA (by decide +kernel)) ?_ (λ_ _ _ _ _=>?_) (λ_ _ _ _ _=>?_) (λ_ _ _ _ _=>?_) Ag.nd rfl rfl rfl))
noncomputable abbrev WN:List Str:=["self"]
theorem NR:au WN ["self"] (ak Vu):=fW
noncomputable def jl:Fn:=dI WN (ao (cF (DU (mB (ai (cE false) (bA gy (af (bD ["Match"] "played" (aa 0)) aj)) (mC (.int 0)))) (mB (ai (cE true) (bD ["Innings"] "ending" (ai aZ (bD ["Match"] "played" (aa 0)) (P5 rK (mC (.int 1))))) (mC (.str "")))))
   (aE (mC .bw))
   aB)
   (aE (ai aZ (bD ["Match"] "played" (aa 0)) (P5 rK (mC (.int 1))))))
theorem iJ (T:Txt K mg a):aO P w K mg base eS 2 a.xR a.ux ["self"] (dS K (aG a) 1 jl):=
 aW T.jE.F NR λ_ _ _ _ _ _=>(by have:=NR.nd;exists (b_ jg T.jj zaL ?_),(aD (jO T) ?_),(aD (vH T) ?_))
noncomputable abbrev WO:List Str:=["self"]
theorem NS:au WO ["self"] (ak Vv):=fW
noncomputable def vI:Fn:=dI WO (aE (ai tR (mC (.int 2)) (ai aZ (bD ["Match"] "rules" (aa 0)) (mC (.int 6)))))
theorem EN (T:Txt K mg a):aO P w K mg base eS 2 a.xS a.uy ["self"] (dS K (aG a) 1 vI):=
 aW T.Co.F NS λ_ _ _ _ _ _=>(by have:=NS.nd;exists (cH T.pN),(aD (qE T) ?_),(cH T.z9))
noncomputable abbrev WQ:List Str:=["self","side"]
theorem NT:au WQ ["self","side"] (ak M8):=fW
noncomputable def Cu:Fn:=qU (dI WQ (aE (bA tU (af (fu (tZ iL (bD ["Match"] "played" (aa 0))) [1] 1 (bI 1) (mB (ai (cE false) (bD ["Innings"] "side" (aa 1)) (aa 0))) (bD ["Innings"] "total" (aa 1))) aj))))
theorem abJ (T:Txt K mg a):aO P w K mg base eS 2 a.xT a.uz ["self","side"] (dS K (aG a) 2 Cu):=
 aO.pure (aW T.Nf.F NT λ_ _ _ _ _ _=>(by have:=NT.nd;exists (b_ Vc T.We zez ?_),(ia (F:=["side"]) (T:=["innings"]) (fr:=[1]) (Jb M8 (by decide +kernel)) ?_ (λ_ _ _ _ _=>?_) (λ_ _ _ _ _=>?_) (λ_ _ _ _ _=>?_)),(aD (jO T) ?_),(fU 1 (show (["side","innings"]:List Str).Nodup by decide +kernel)),(aD (mS T) ?_),(aD (Aa T) ?_)))
noncomputable abbrev WR:List Str:=["self","side"]
theorem NU:au WR ["self","side"] (ak Vw):=fW
noncomputable def yz:Fn:=dI WR (aE (ai dw (aN "Match" "total_of" 2 Cu (aa 0) (af (aa 1) aj)) (aN "Match" "total_of" 2 Cu (aa 0) (af (ai dw (mC (.int 1)) (aa 1)) aj))))
theorem ER (T:Txt K mg a):aO P w K mg base eS 3 a.xU a.uA ["self","side"] (dS K (aG a) 2 yz):=
 aW T.Cp.F NU λ_ _ _ _ _ _=>(by have:=NU.nd;exists (bN (aA T) (SX T) (abJ T) (by decide) T.Nf.b aF ?_ ?_))
noncomputable abbrev WS:List Str:=["self","count"]
theorem NV:au WS ["self"] (ak Vx):=fW
noncomputable def Cv:Fn:=dI WS (ao (cF (mB (bD ["Match"] "closed" (aa 0)))
   (aE (mC (.bl true)))
   aB)
   (ao (cF (mB (ai (iT true) (aN "Match" "going" 1 jl (aa 0) aj) (mC .bw)))
   (aE (mC (.bl false)))
   aB)
   (ao (aR 1 (bA gy (af (bD ["Match"] "played" (aa 0)) aj)))
   (ao (cF (jG (mB (ai (cE false) (aa 1) (ai dw (mC (.int 4)) (mC (.int 1))))) (mB (ai (cE false) (aN "Match" "most_innings" 1 vI (aa 0) aj) (mC (.int 4)))))
   (aE (ai Kh (aN "Match" "lead_of" 2 yz (aa 0) (af (bD ["Innings"] "side" (ai aZ (bD ["Match"] "played" (aa 0)) (P5 rK (mC (.int 1))))) aj)) (mC (.int 0))))
   aB)
   (aE (ai gGe (aa 1) (aN "Match" "most_innings" 1 vI (aa 0) aj)))))))
theorem NW (T:Txt K mg a):aO P w K mg base eS 4 a.xV a.uB ["self"] (dS K (aG a) 1 Cv):=
 aW T.GD.F NV λ_ _ _ _ _ _=>(by have:=NV.nd;exists (aD (EH T) ?_),(aT (aA T) (f9 T) (iJ T) (by decide) T.jE.b aF ?_),(b_ jg T.jj zaL ?_),(aD (jO T) ?_),(cH T.pM),(aT (aA T) (Ac T) (EN T) (by decide) T.Co.b aF ?_),(bN (aA T) (Ae T) (ER T) (by decide) T.Cp.b aF ?_ ?_),(aD (mS T) ?_))
noncomputable abbrev WT:List Str:=["self","last"]
theorem NX:au WT ["self"] (ak Vy):=fW
noncomputable def Cw:Fn:=dI WT (ao (cF (DU (mB (ai (cE false) (bA gy (af (bD ["Match"] "played" (aa 0)) aj)) (mC (.int 0)))) (DU (mB (ai (iT true) (aN "Match" "going" 1 jl (aa 0) aj) (mC .bw))) (mB (aN "Match" "is_done" 1 Cv (aa 0) aj))))
   (aE (mC .bw))
   aB)
   (ao (aR 1 (bD ["Innings"] "side" (ai aZ (bD ["Match"] "played" (aa 0)) (P5 rK (mC (.int 1))))))
   (ao (cF (jG (mB (bD ["Match"] "followed" (aa 0))) (mB (ai (cE false) (bA gy (af (bD ["Match"] "played" (aa 0)) aj)) (mC (.int 2)))))
   (aE (aa 1))
   aB)
   (aE (ai dw (mC (.int 1)) (aa 1))))))
theorem NY (T:Txt K mg a):aO P w K mg base eS 5 a.xW a.uC ["self"] (dS K (aG a) 1 Cw):=
 aW T.GF.F NX λ_ _ _ _ _ _=>(by have:=NX.nd;exists (b_ jg T.jj zaL ?_),(aD (jO T) ?_),(aT (aA T) (f9 T) (iJ T) (by decide) T.jE.b aF ?_),(aT (aA T) (GI T) (NW T) (by decide) T.GD.b aF ?_),(aD (mS T) ?_),(aD (Ab T) ?_))
noncomputable abbrev WU:List Str:=["self","team","side"]
theorem ES:au WU ["self","team"] (ak Vz):=fW
noncomputable def Cy:Fn:=dI WU (ao (Bm (xH (af (mC (.int 2)) aj)) (bI 2)
   (cF (jG (mB (ai (cE false) (ai aZ (ai aZ (bD ["Match"] "sides" (aa 0)) (aa 2)) (mC (.int 0))) (aa 1))) (DU (mB (ai (cE false) (bA gy (af (bD ["Match"] "played" (aa 0)) aj)) (mC (.int 0)))) (mB (ai (cE false) (aa 2) (aN "Match" "next_side" 1 Cw (aa 0) aj)))))
   (aE (aa 2))
   aB))
   (aE (mC .bw)))
theorem NZ (T:Txt K mg a):aO P w K mg base eS 6 a.xX a.uD ["self","team"] (dS K (aG a) 2 Cy):=
 aW T.GG.F ES λ_ _ _ _ _ _=>(by have:=ES.nd;exists (t6 zcz ?_ ?_ ?_),(zA T.z8 ?_),(cH T.pN),(fU 2 ES.nd),(aD (jk T) ?_),(b_ jg T.jj zaL ?_),(aD (jO T) ?_),(aT (aA T) (GJ T) (NY T) (by decide) T.GF.b aF ?_))
noncomputable abbrev WV:List Str:=["self","entry","side","batting","fielding"]
theorem N1:au WV ["self","entry"] (ak VA):=fW
noncomputable def GQ:Fn:=dI WV (ao (cF (mB (ai (iT true) (aN "Match" "going" 1 jl (aa 0) aj) (mC .bw)))
   (aE (mC (.str "going")))
   aB)
   (ao (aR 2 (aN "Match" "side_to_start" 2 Cy (aa 0) (af (ai aZ (aa 1) (mC (.int 1))) aj)))
   (ao (cF (mB (ai (iT false) (aa 2) (mC .bw)))
   (aE (mC (.str "turn")))
   aB)
   (ao (aR 3 (ai aZ (ai aZ (bD ["Match"] "sides" (aa 0)) (aa 2)) (mC (.int 1))))
   (ao (aR 4 (ai aZ (ai aZ (bD ["Match"] "sides" (aa 0)) (ai dw (mC (.int 1)) (aa 2))) (mC (.int 1))))
   (ao (cF (DU (mB (ai (xF true) (ai aZ (aa 1) (mC (.int 2))) (aa 3))) (DU (mB (ai (xF true) (ai aZ (aa 1) (mC (.int 3))) (aa 3))) (mB (ai (xF true) (ai aZ (aa 1) (mC (.int 4))) (aa 4)))))
   (aE (mC (.str "team")))
   aB)
   (aE (DW (mB (ai (cE false) (ai aZ (aa 1) (mC (.int 2))) (ai aZ (aa 1) (mC (.int 3))))) (mC (.str "alike")) (mC .bw)))))))))
theorem abK (T:Txt K mg a):aO P w K mg base eS 7 a.xY a.uE ["self","entry"] (dS K (aG a) 2 GQ):=
 aW T.Ng.F N1 λ_ _ _ _ _ _=>(by have:=N1.nd;exists (aT (aA T) (f9 T) (iJ T) (by decide) T.jE.b aF ?_),(bN (aA T) (GK T) (NZ T) (by decide) T.GG.b aF ?_ ?_),(aD (jk T) ?_),(gC Be ?_ ?_ (by with_unfolding_all rfl)))
noncomputable abbrev WW:List Str:=["self","name"]
theorem N2:au WW ["self","name"] (ak VB):=fW
noncomputable def pP:Fn:=dI WW (aE (ai (xF false) (aa 1) (dO (af (bD ["Innings"] "facing" (aa 0)) (af (bD ["Innings"] "other" (aa 0)) aj)))))
theorem qF (T:Txt K mg a):aO P w K mg base eS 2 a.x_ a.uF ["self","name"] (dS K (aG a) 2 pP):=
 aW T.q8.F N2 λ_ _ _ _ _ _=>(by have:=N2.nd;exists (jb Bd ?_ ?_ (by with_unfolding_all rfl)),(aD (iI T) ?_),(aD (mT T) ?_))
noncomputable abbrev WX:List Str:=["innings","old"]
theorem N3:au WX ["innings","old"] (ak VC):=fW
noncomputable def GR:Fn:=dI WX (aE (DW (DU (mB (aN "Innings" "stands" 2 pP (aa 0) (af (aa 1) aj))) (mB (ai (cE false) (aa 1) (bD ["Innings"] "bowler" (aa 0))))) (mC (.str "there")) (mC .bw)))
theorem abL (T:Txt K mg a):aO P w K mg base eS 3 a.BH a.uG ["innings","old"] (dS K (aG a) 2 GR):=
 aW T.Wk.F N3 λ_ _ _ _ _ _=>(by have:=N3.nd;exists (bN (aQ T) (nD T) (qF T) (by decide) T.q8.b aF ?_ ?_),(aD (kZ T) ?_))
noncomputable abbrev WY:List Str:=["self","old","new","going"]
theorem N4:au WY ["self","old","new"] (ak VD):=fW
noncomputable def GS:Fn:=dI WY (ao (cF (mB (ai (xF true) (aa 1) (dR 2 Ct (af (bD ["Match"] "sides" (aa 0)) (af (mC (.str "player")) aj)))))
   (aE (mC (.str "team")))
   aB)
   (ao (cF (mB (ai (xF false) (aa 2) (bD ["Match"] "known" (aa 0))))
   (aE (mC (.str "name")))
   aB)
   (ao (aR 3 (aN "Match" "going" 1 jl (aa 0) aj))
   (aE (DW (mB (ai (iT false) (aa 3) (mC .bw))) (mC .bw) (dR 2 GR (af (aa 3) (af (aa 1) aj))))))))
theorem abM (T:Txt K mg a):aO P w K mg base eS 4 a.ya a.uH ["self","old","new"] (dS K (aG a) 3 GS):=
 aW T.Nh.F N4 λ_ _ _ _ _ _=>(by have:=N4.nd;exists (gC Be ?_ ?_ (by with_unfolding_all rfl)),(cP (NP T) T.Nd ?_),(aD (jk T) ?_),(gC Bd ?_ ?_ (by with_unfolding_all rfl)),(aD (EG T) ?_),(aT (aA T) (f9 T) (iJ T) (by decide) T.jE.b aF ?_),(cP (abL T) T.Wk ?_))
noncomputable abbrev WZ:List Str:=["self"]
theorem N5:au WZ ["self"] (ak VE):=fW
noncomputable def GU:Fn:=dI WZ (ao (cF (DU (mB (ai (cE true) (bA gy (af (bD ["Match"] "played" (aa 0)) aj)) (mC (.int 2)))) (DU (mB (ai (cE true) (aN "Match" "most_innings" 1 vI (aa 0) aj) (mC (.int 4)))) (mB (bD ["Match"] "followed" (aa 0)))))
   (aE (mC (.bl false)))
   aB)
   (aE (mE Kh gLe (mC (.int 0)) (ai aZ (bD ["Match"] "rules" (aa 0)) (mC (.int 7))) (aN "Match" "lead_of" 2 yz (aa 0) (af (bD ["Innings"] "side" (ai aZ (bD ["Match"] "played" (aa 0)) (mC (.int 0)))) aj)))))
theorem abN (T:Txt K mg a):aO P w K mg base eS 4 a.yb a.uI ["self"] (dS K (aG a) 1 GU):=
 aW T.Ni.F N5 λ_ _ _ _ _ _=>(by have:=N5.nd;exists (b_ jg T.jj zaL ?_),(aD (jO T) ?_),(aT (aA T) (Ac T) (EN T) (by decide) T.Co.b aF ?_),(cH T.pM),(aD (Ab T) ?_),(LZ L6 L7 ?_ ?_ ?_),(aD (qE T) ?_),(cH T.Cm),(bN (aA T) (Ae T) (ER T) (by decide) T.Cp.b aF ?_ ?_),(aD (mS T) ?_))
noncomputable abbrev W0:List Str:=["self"]
theorem N6:au W0 ["self"] (ak VF):=fW
noncomputable def GV:Fn:=dI W0 (ao (cF (mB (ai (iT true) (aN "Match" "going" 1 jl (aa 0) aj) (mC .bw)))
   (aE (mC (.str "going")))
   aB)
   (aE (DW (mB (aN "Match" "may_follow" 1 GU (aa 0) aj)) (mC .bw) (mC (.str "follow")))))
theorem abO (T:Txt K mg a):aO P w K mg base eS 5 a.yc a.uJ ["self"] (dS K (aG a) 1 GV):=
 aW T.Nj.F N6 λ_ _ _ _ _ _=>(by have:=N6.nd;exists (aT (aA T) (f9 T) (iJ T) (by decide) T.jE.b aF ?_),(aT (aA T) (Tc T) (abN T) (by decide) T.Ni.b aF ?_))
noncomputable abbrev aip:List Str:=["self"]
theorem W2:au aip ["self"] (ak ahV):=fW
noncomputable def Jt:Fn:=dI aip (aE (aN "Innings" "stands" 2 pP (aa 0) (af (mC (.str "")) aj)))
theorem N7 (T:Txt K mg a):aO P w K mg base eS 3 a.Je a.B9 ["self"] (dS K (aG a) 1 Jt):=
 aW T.Nk.F W2 λ_ _ _ _ _ _=>(by have:=W2.nd;exists (bN (aQ T) (nD T) (qF T) (by decide) T.q8.b aF ?_ ?_))
noncomputable abbrev W3:List Str:=["kind","runs"]
theorem N8:au W3 ["kind","runs"] (ak VG):=fW
noncomputable def GW:Fn:=dI W3 (aE (U_ (ai (cE false) (aa 1) (mC (.int 4))) (kK (ai (cE false) (aa 1) (mC (.int 6))) (ai (xF false) (aa 0) (dO (af (mC (.str "bat")) (af (mC (.str "no")) aj)))))))
theorem abP (T:Txt K mg a):aO P w K mg base eS 2 a.BI a.uK ["kind","runs"] (dS K (aG a) 2 GW):=
 aW T.Wl.F N8 λ_ _ _ _ _ _=>(by have:=N8.nd;exists (cH T.abo),(cH T.ah5),(jb Bd ?_ ?_ (by with_unfolding_all rfl)))
noncomputable abbrev W4:List Str:=["kind","runs","rope","way"]
theorem N9:au W4 ["kind","runs","rope","way"] (ak VH):=fW
noncomputable def GX:Fn:=dI W4 (ao (cF (mB (ai (cE false) (aa 3) (mC (.str ""))))
   (aE (mC (.bl true)))
   aB)
   (ao (cF (mB (aa 2))
   (aE (mC (.bl false)))
   aB)
   (ao (cF (mB (ai (cE false) (aa 3) (mC (.str "run"))))
   (aE (mC (.bl true)))
   aB)
   (ao (cF (mB (ai (cE true) (aa 1) (mC (.int 0))))
   (aE (mC (.bl false)))
   aB)
   (ao (cF (mB (ai (xF false) (aa 3) (dO (af (mC (.str "stumped")) (af (mC (.str "hit")) aj)))))
   (aE (ai (xF false) (aa 0) (dO (af (mC (.str "bat")) (af (mC (.str "wide")) aj)))))
   aB)
   (aE (ai (cE false) (aa 0) (mC (.str "bat")))))))))
theorem abQ (T:Txt K mg a):aO P w K mg base eS 2 a.BJ a.uL ["kind","runs","rope","way"] (dS K (aG a) 4 GX):=
 aW T.Wm.F N9 λ_ _ _ _ _ _=>(by have:=N9.nd;exists (gC Bd ?_ ?_ (by with_unfolding_all rfl)),(jb Bd ?_ ?_ (by with_unfolding_all rfl)))
noncomputable abbrev W5:List Str:=["entry","kind","runs","rope"]
theorem N_:au W5 ["entry"] (ak VI):=fW
noncomputable def GY:Fn:=dI W5 (ao (aR 1 (ai aZ (aa 0) (mC (.int 1))))
   (ao (aR 2 (ai aZ (aa 0) (mC (.int 2))))
   (ao (aR 3 (ai aZ (aa 0) (mC (.int 3))))
   (ao (cF (jG (mB (aa 3)) (wK (mB (dR 2 GW (af (aa 1) (af (aa 2) aj))))))
   (aE (mC (.str "rope")))
   aB)
   (ao (cF (wK (mB (dR 4 GX (af (aa 1) (af (aa 2) (af (aa 3) (af (ai aZ (aa 0) (mC (.int 4))) aj)))))))
   (aE (mC (.str "way")))
   aB)
   (aE (mC .bw)))))))
theorem abR (T:Txt K mg a):aO P w K mg base eS 3 a.BK a.uM ["entry"] (dS K (aG a) 1 GY):=
 aW T.Wn.F N_ λ_ _ _ _ _ _=>(by have:=N_.nd;exists (cP (abP T) T.Wl ?_),(cP (abQ T) T.Wm ?_))
noncomputable abbrev W6:List Str:=["innings","entry","fault"]
theorem Oa:au W6 ["innings","entry"] (ak VJ):=fW
noncomputable def GZ:Fn:=dI W6 (ao (cF (mB (aN "Innings" "has_gap" 1 Jt (aa 0) aj))
   (aE (mC (.str "empty")))
   aB)
   (ao (cF (mB (ai (cE false) (bD ["Innings"] "bowler" (aa 0)) (mC (.str ""))))
   (aE (mC (.str "bowler")))
   aB)
   (ao (aR 2 (dR 1 GY (af (aa 1) aj)))
   (ao (cF (jG (mB (ai (iT false) (aa 2) (mC .bw))) (jG (mB (ai (cE false) (ai aZ (aa 1) (mC (.int 4))) (mC (.str "run")))) (wK (mB (aN "Innings" "stands" 2 pP (aa 0) (af (ai aZ (aa 1) (mC (.int 5))) aj))))))
   (aE (mC (.str "who")))
   aB)
   (aE (aa 2))))))
theorem abS (T:Txt K mg a):aO P w K mg base eS 4 a.BL a.uN ["innings","entry"] (dS K (aG a) 2 GZ):=
 aW T.Wo.F Oa λ_ _ _ _ _ _=>(by have:=Oa.nd;exists (aT (aQ T) (EL T) (N7 T) (by decide) T.Nk.b aF ?_),(aD (kZ T) ?_),(cP (abR T) T.Wn ?_),(bN (aQ T) (nD T) (qF T) (by decide) T.q8.b aF ?_ ?_))
noncomputable abbrev W7:List Str:=["innings","batting","name"]
theorem Ob:au W7 ["innings","batting","name"] (ak VL):=fW
noncomputable def G0:Fn:=dI W7 (ao (cF (wK (mB (aN "Innings" "has_gap" 1 Jt (aa 0) aj)))
   (aE (mC (.str "full")))
   aB)
   (ao (cF (mB (ai (xF true) (aa 2) (aa 1)))
   (aE (mC (.str "team")))
   aB)
   (ao (cF (mB (ai (Bf false) (aa 2) (bD ["Innings"] "outs" (aa 0))))
   (aE (mC (.str "out")))
   aB)
   (aE (DW (mB (aN "Innings" "stands" 2 pP (aa 0) (af (aa 2) aj))) (mC (.str "there")) (mC .bw))))))
theorem abT (T:Txt K mg a):aO P w K mg base eS 4 a.BN a.uO ["innings","batting","name"] (dS K (aG a) 3 G0):=
 aW T.Wq.F Ob λ_ _ _ _ _ _=>(by have:=Ob.nd;exists (aT (aQ T) (EL T) (N7 T) (by decide) T.Nk.b aF ?_),(gC Be ?_ ?_ (by with_unfolding_all rfl)),(Z7 ?_ ?_),(aD (nA T) ?_),(bN (aQ T) (nD T) (qF T) (by decide) T.q8.b aF ?_ ?_))
noncomputable abbrev W8:List Str:=["innings","fielding","spell","name"]
theorem Oc:au W8 ["innings","fielding","spell","name"] (ak VM):=fW
noncomputable def G1:Fn:=dI W8 (ao (cF (mB (ai (cE true) (bD ["Innings"] "bowler" (aa 0)) (mC (.str ""))))
   (aE (mC (.str "bowling")))
   aB)
   (ao (cF (mB (ai (xF true) (aa 3) (aa 1)))
   (aE (mC (.str "team")))
   aB)
   (ao (cF (mB (ai (cE false) (aa 3) (bD ["Innings"] "ahead" (aa 0))))
   (aE (mC (.str "twice")))
   aB)
   (ao (cF (mB (mE Kh gLe (mC (.int 0)) (aa 2) (Gh (bD ["Innings"] "spells" (aa 0)) (aa 3) (mC (.int 0)))))
   (aE (mC (.str "spell")))
   aB)
   (aE (mC .bw))))))
theorem abU (T:Txt K mg a):aO P w K mg base eS 2 a.BO a.uP ["innings","fielding","spell","name"] (dS K (aG a) 4 G1):=
 aW T.Wr.F Oc λ_ _ _ _ _ _=>(by have:=Oc.nd;exists (aD (kZ T) ?_),(gC Be ?_ ?_ (by with_unfolding_all rfl)),(aD (vF T) ?_),(Ba L6 L7 ?_ ?_ ?_),(Gi ?_ ?_ ?_),(aD (pO T) ?_))
noncomputable abbrev W9:List Str:=["innings","rules","batting","fielding","entry"]
theorem Od:au W9 ["innings","rules","batting","fielding","entry"] (ak VN):=fW
noncomputable def G2:Fn:=dI W9 (ao (cF (mB (ai (cE false) (ai aZ (aa 4) (mC (.int 0))) (mC (.str "ball"))))
   (aE (dR 2 GZ (af (aa 0) (af (aa 4) aj))))
   aB)
   (ao (cF (mB (ai (cE false) (ai aZ (aa 4) (mC (.int 0))) (mC (.str "in"))))
   (aE (dR 3 G0 (af (aa 0) (af (aa 2) (af (ai aZ (aa 4) (mC (.int 1))) aj)))))
   aB)
   (ao (cF (mB (ai (cE false) (ai aZ (aa 4) (mC (.int 0))) (mC (.str "bowl"))))
   (aE (dR 4 G1 (af (aa 0) (af (aa 3) (af (ai aZ (aa 1) (mC (.int 2))) (af (ai aZ (aa 4) (mC (.int 1))) aj))))))
   aB)
   (ao (cF (mB (ai (cE false) (ai aZ (aa 4) (mC (.int 0))) (mC (.str "hurt"))))
   (aE (DW (mB (aN "Innings" "stands" 2 pP (aa 0) (af (ai aZ (aa 4) (mC (.int 1))) aj))) (mC .bw) (mC (.str "who"))))
   aB)
   (aE (mC .bw))))))
theorem abV (T:Txt K mg a):aO P w K mg base eS 5 a.BP a.uQ ["innings","rules","batting","fielding","entry"] (dS K (aG a) 5 G2):=
 aW T.Ws.F Od λ_ _ _ _ _ _=>(by have:=Od.nd;exists (cP (abS T) T.Wo ?_),(cP (abT T) T.Wq ?_),(cP (abU T) T.Wr ?_),(cH T.EA),(bN (aQ T) (nD T) (qF T) (by decide) T.q8.b aF ?_ ?_))
noncomputable abbrev W_:List Str:=["self","entry","going","batting","fielding"]
theorem Oe:au W_ ["self","entry"] (ak VO):=fW
noncomputable def rm:Fn:=dI W_ (ao (cF (mB (aN "Match" "is_done" 1 Cv (aa 0) aj))
   (aE (mC (.str "done")))
   aB)
   (ao (cF (mB (ai (cE false) (ai aZ (aa 1) (mC (.int 0))) (mC (.str "start"))))
   (aE (aN "Match" "start_refusal" 2 GQ (aa 0) (af (aa 1) aj)))
   aB)
   (ao (cF (mB (ai (cE false) (ai aZ (aa 1) (mC (.int 0))) (mC (.str "swap"))))
   (aE (aN "Match" "swap_refusal" 3 GS (aa 0) (af (ai aZ (aa 1) (mC (.int 1))) (af (ai aZ (aa 1) (mC (.int 2))) aj))))
   aB)
   (ao (cF (mB (ai (cE false) (ai aZ (aa 1) (mC (.int 0))) (mC (.str "follow"))))
   (aE (aN "Match" "follow_refusal" 1 GV (aa 0) aj))
   aB)
   (ao (cF (mB (ai (cE false) (ai aZ (aa 1) (mC (.int 0))) (mC (.str "close"))))
   (aE (mC .bw))
   aB)
   (ao (aR 2 (aN "Match" "going" 1 jl (aa 0) aj))
   (ao (cF (mB (ai (iT false) (aa 2) (mC .bw)))
   (aE (mC (.str "none")))
   aB)
   (ao (aR 3 (ai aZ (ai aZ (bD ["Match"] "sides" (aa 0)) (bD ["Innings"] "side" (aa 2))) (mC (.int 1))))
   (ao (aR 4 (ai aZ (ai aZ (bD ["Match"] "sides" (aa 0)) (ai dw (mC (.int 1)) (bD ["Innings"] "side" (aa 2)))) (mC (.int 1))))
   (aE (dR 5 G2 (af (aa 2) (af (bD ["Match"] "rules" (aa 0)) (af (aa 3) (af (aa 4) (af (aa 1) aj))))))))))))))))
theorem abW (T:Txt K mg a):aO P w K mg base eS 8 a.yd a.uR ["self","entry"] (dS K (aG a) 2 rm):=
 aW T.Nl.F Oe λ_ _ _ _ _ _=>(by have:=Oe.nd;exists (aT (aA T) (GI T) (NW T) (by decide) T.GD.b aF ?_),(bN (aA T) (SY T) (abK T) (by decide) T.Ng.b aF ?_ ?_),(bN (aA T) (S_ T) (abM T) (by decide) T.Nh.b aF ?_ ?_),(aT (aA T) (Td T) (abO T) (by decide) T.Nj.b aF ?_),(aT (aA T) (f9 T) (iJ T) (by decide) T.jE.b aF ?_),(aD (jk T) ?_),(aD (mS T) ?_),(cP (abV T) T.Ws ?_),(aD (qE T) ?_))
noncomputable abbrev aiq:List Str:=["self","side","facing","other","bowler"]
theorem Xa:au aiq ["self","side","facing","other","bowler"] (ak ahW):=fW
noncomputable def Tw:Fn:=dI aiq (ao (cu ["Innings"] "side" (aa 0) (aa 1))
   (ao (cu ["Innings"] "facing" (aa 0) (aa 2))
   (ao (cu ["Innings"] "other" (aa 0) (aa 3))
   (ao (cu ["Innings"] "bowler" (aa 0) (aa 4))
   (ao (cu ["Innings"] "ahead" (aa 0) (mC (.str "")))
   (ao (cu ["Innings"] "total" (aa 0) (mC (.int 0)))
   (ao (cu ["Innings"] "wickets" (aa 0) (mC (.int 0)))
   (ao (cu ["Innings"] "overs" (aa 0) (mC (.int 0)))
   (ao (cu ["Innings"] "balls" (aa 0) (mC (.int 0)))
   (ao (cu ["Innings"] "ending" (aa 0) (mC (.str "")))
   (ao (cu ["Innings"] "outs" (aa 0) Eg)
   (cu ["Innings"] "spells" (aa 0) (pC [((aa 4),(mC (.int 1)))])))))))))))))
theorem air (T:Txt K mg a):aO P w K mg base eS 2 a.Ey a.B_ ["self","side","facing","other","bowler"] (dS K (aG a) 5 Tw):=
 aW T.ah6.F Xa λ_ _ _ _ _ _=>(by have:=Xa.nd;exists (a_ (mS T) ?_ ?_),(a_ (iI T) ?_ ?_),(a_ (mT T) ?_ ?_),(a_ (kZ T) ?_ ?_),(a_ (vF T) ?_ ?_),(a_ (Aa T) ?_ ?_),(a_ (EF T) ?_ ?_),(a_ (vG T) ?_ ?_),(a_ (qD T) ?_ ?_),(a_ (vH T) ?_ ?_),(a_ (nA T) ?_ ?_),Mq,(a_ (pO T) ?_ ?_),(zE ?_),(zD ?_ ?_ ?_),om)
noncomputable abbrev Xb:List Str:=["self","entry","side"]
theorem Of:au Xb ["self","entry"] (ak VP):=fW
noncomputable def G3:Fn:=dI Xb (ao (aR 2 (aN "Match" "side_to_start" 2 Cy (aa 0) (af (ai aZ (aa 1) (mC (.int 1))) aj)))
   (eV (tV IL zw (bD ["Match"] "played" (aa 0)) (af (xJ "Innings" 5 Tw (af (aa 2) (af (ai aZ (aa 1) (mC (.int 2))) (af (ai aZ (aa 1) (mC (.int 3))) (af (ai aZ (aa 1) (mC (.int 4))) aj))))) aj))))
theorem abX (T:Txt K mg a):aO P w K mg base eS 7 a.ye a.uS ["self","entry"] (dS K (aG a) 2 G3):=
 aW T.Nm.F Of λ_ _ _ _ _ _=>(by have:=Of.nd;exists (bN (aA T) (GK T) (NZ T) (by decide) T.GG.b aF ?_ ?_),(qx zbg zbH zbI nZ mL ?_ ?_),(aD (jO T) ?_),(Gg (c:= "Innings") (EE T) (air T) (by decide) (Cq T) T.ah6.b aF ?_))
noncomputable abbrev Xc:List Str:=["rules","kind","runs","wide","noball"]
theorem Og:au Xc ["rules","kind","runs"] (ak VQ):=fW
noncomputable def G4:Fn:=dI Xc (ao (cF (mB (ai (cE false) (aa 1) (mC (.str "bat"))))
   (aE (dO (af (aa 2) (af (mC (.int 0)) (af (aa 2) aj)))))
   aB)
   (ao (cF (mB (ai (cE false) (aa 1) (mC (.str "wide"))))
   (ao (aR 3 (ai c_ (ai aZ (aa 0) (mC (.int 3))) (aa 2)))
   (aE (dO (af (mC (.int 0)) (af (aa 3) (af (aa 3) aj))))))
   aB)
   (ao (aR 4 (ai aZ (aa 0) (mC (.int 4))))
   (ao (cF (mB (ai (cE false) (aa 1) (mC (.str "no"))))
   (aE (dO (af (aa 2) (af (aa 4) (af (ai c_ (aa 4) (aa 2)) aj)))))
   aB)
   (ao (cF (mB (ai (cE false) (aa 1) (mC (.str "nobye"))))
   (aE (dO (af (mC (.int 0)) (af (ai c_ (aa 4) (aa 2)) (af (aa 4) aj)))))
   aB)
   (aE (dO (af (mC (.int 0)) (af (aa 2) (af (mC (.int 0)) aj))))))))))
theorem abY (T:Txt K mg a):aO P w K mg base eS 2 a.BQ a.uU ["rules","kind","runs"] (dS K (aG a) 3 G4):=
 aW T.Wt.F Og λ_ _ _ _ _ _=>(by have:=Og.nd;exists (cH T.Jp),(cH T.Cn))
noncomputable abbrev Xd:List Str:=["rules","entry","kind","runs","by","fair","faced","crossed","credited"]
theorem Oh:au Xd ["rules","entry"] (ak VR):=fW
noncomputable def Cz:Fn:=dI Xd (ao (aR 2 (ai aZ (aa 1) (mC (.int 1))))
   (ao (aR 3 (ai aZ (aa 1) (mC (.int 2))))
   (ao (aR 4 (dR 3 G4 (af (aa 0) (af (aa 2) (af (aa 3) aj)))))
   (ao (aR 5 (ai (xF false) (aa 2) (dO (af (mC (.str "bat")) (af (mC (.str "bye")) (af (mC (.str "leg")) aj))))))
   (ao (aR 6 (ai (cE true) (aa 2) (mC (.str "wide"))))
   (ao (aR 7 (kK (ai (cE false) (ai qt (aa 3) (mC (.int 2))) (mC (.int 1))) (IK (ai aZ (aa 1) (mC (.int 3))))))
   (ao (aR 8 (ai (xF true) (ai aZ (aa 1) (mC (.int 4))) (dO (af (mC (.str "")) (af (mC (.str "run")) aj)))))
   (aE (ai c_ (ai c_ (dO (af (ai c_ (ai aZ (aa 4) (mC (.int 0))) (ai aZ (aa 4) (mC (.int 1)))) aj)) (aa 4)) (dO (af (aa 5) (af (aa 6) (af (aa 7) (af (aa 8) aj))))))))))))))
theorem Oi (T:Txt K mg a):aO P w K mg base eS 3 a.BR a.uV ["rules","entry"] (dS K (aG a) 2 Cz):=
 aW T.Nn.F Oh λ_ _ _ _ _ _=>(by have:=Oh.nd;exists (cP (abY T) T.Wt ?_),(jb Bd ?_ ?_ (by with_unfolding_all rfl)),(DY ?_),(jb Be ?_ ?_ (by with_unfolding_all rfl)))
noncomputable abbrev ais:List Str:=["self","entry"]
theorem Xe:au ais ["self","entry"] (ak ahX):=fW
noncomputable def Tz:Fn:=dI ais (ao (cF (mB (ai (cE false) (ai aZ (aa 1) (mC (.int 4))) (mC (.str "run"))))
   (aE (ai aZ (aa 1) (mC (.int 5))))
   aB)
   (aE (DW (mB (ai (cE false) (ai aZ (aa 1) (mC (.int 4))) (mC (.str "")))) (mC (.str "")) (bD ["Innings"] "facing" (aa 0)))))
theorem ait (T:Txt K mg a):aO P w K mg base eS 2 a.Jf a.Ca ["self","entry"] (dS K (aG a) 2 Tz):=
 aW T.abp.F Xe λ_ _ _ _ _ _=>(by have:=Xe.nd;exists (aD (iI T) ?_))
noncomputable abbrev aiu:List Str:=["self","facing"]
theorem Xf:au aiu ["self"] (ak ahY):=fW
noncomputable def Ju:Fn:=dI aiu (ao (aR 1 (bD ["Innings"] "facing" (aa 0)))
   (ao (cu ["Innings"] "facing" (aa 0) (bD ["Innings"] "other" (aa 0)))
   (cu ["Innings"] "other" (aa 0) (aa 1))))
theorem Oj (T:Txt K mg a):aO P w K mg base eS 2 a.Jg a.Cb ["self"] (dS K (aG a) 1 Ju):=
 aW T.Np.F Xf λ_ _ _ _ _ _=>(by have:=Xf.nd;exists (aD (iI T) ?_),(a_ (iI T) ?_ ?_),(aD (mT T) ?_),(a_ (mT T) ?_ ?_))
noncomputable abbrev aiv:List Str:=["self","name"]
theorem Xg:au aiv ["self","name"] (ak ahZ):=fW
noncomputable def Ol:Fn:=dI aiv (cF (mB (ai (cE false) (bD ["Innings"] "facing" (aa 0)) (aa 1)))
   (cu ["Innings"] "facing" (aa 0) (mC (.str "")))
   (cu ["Innings"] "other" (aa 0) (mC (.str ""))))
theorem Xh (T:Txt K mg a):aO P w K mg base eS 2 a.Jh a.Cc ["self","name"] (dS K (aG a) 2 Ol):=
 aW T.SW.F Xg λ_ _ _ _ _ _=>(by have:=Xg.nd;exists (aD (iI T) ?_),(a_ (iI T) ?_ ?_),(a_ (mT T) ?_ ?_))
noncomputable abbrev aiw:List Str:=["self","name","end","empty"]
theorem Xi:au aiw ["self","name","end"] (ak ah0):=fW
noncomputable def TH:Fn:=dI aiw (ao (nQ (bD ["Innings"] "outs" (aa 0)) (aa 1) (mC (.bl true)))
   (ao (xG ["Innings"] "wickets" (λi j=>i+j) (aa 0) (mC (.int 1)))
   (ao (eV (aN "Innings" "leave" 2 Ol (aa 0) (af (aa 1) aj)))
   (ao (aR 3 (DW (mB (ai (cE false) (bD ["Innings"] "facing" (aa 0)) (mC (.str "")))) (mC (.str "strike")) (mC (.str "other"))))
   (cF (mB (ai (cE true) (aa 3) (aa 2)))
   (eV (aN "Innings" "change_ends" 1 Ju (aa 0) aj))
   aB)))))
theorem aix (T:Txt K mg a):aO P w K mg base eS 3 a.Ji a.Cd ["self","name","end"] (dS K (aG a) 3 TH):=
 aW T.abq.F Xi λ_ _ _ _ _ _=>(by have:=Xi.nd;exists (zx ?_ ?_ ?_),(aD (nA T) ?_),(r_ se (EF T) ?_ ?_),(bN (aQ T) (NJ T) (Xh T) (by decide) T.SW.b aF ?_ ?_),(aD (iI T) ?_),(aT (aQ T) (EM T) (Oj T) (by decide) T.Np.b aF ?_))
noncomputable abbrev aiy:List Str:=["self","over"]
theorem Xj:au aiy ["self","over"] (ak ah1):=fW
noncomputable def TL:Fn:=dI aiy (ao (xG ["Innings"] "balls" (λi j=>i+j) (aa 0) (mC (.int 1)))
   (cF (mB (ai gGe (bD ["Innings"] "balls" (aa 0)) (aa 1)))
   (ao (xG ["Innings"] "overs" (λi j=>i+j) (aa 0) (mC (.int 1)))
   (ao (cu ["Innings"] "balls" (aa 0) (mC (.int 0)))
   (ao (eV (aN "Innings" "change_ends" 1 Ju (aa 0) aj))
   (ao (cu ["Innings"] "ahead" (aa 0) (bD ["Innings"] "bowler" (aa 0)))
   (cu ["Innings"] "bowler" (aa 0) (mC (.str "")))))))
   aB))
theorem aiz (T:Txt K mg a):aO P w K mg base eS 3 a.Jj a.Cf ["self","over"] (dS K (aG a) 2 TL):=
 aW T.abr.F Xj λ_ _ _ _ _ _=>(by have:=Xj.nd;exists (r_ se (qD T) ?_ ?_),(aD (qD T) ?_),(r_ se (vG T) ?_ ?_),(a_ (qD T) ?_ ?_),(aT (aQ T) (EM T) (Oj T) (by decide) T.Np.b aF ?_),(a_ (vF T) ?_ ?_),(aD (kZ T) ?_),(a_ (kZ T) ?_ ?_))
noncomputable abbrev Xk:List Str:=["self","rules","entry","sums","out"]
theorem Om:au Xk ["self","rules","entry"] (ak VS):=fW
noncomputable def G5:Fn:=dI Xk (ao (aR 3 (dR 2 Cz (af (aa 1) (af (aa 2) aj))))
   (ao (aR 4 (aN "Innings" "out_by" 2 Tz (aa 0) (af (aa 2) aj)))
   (ao (xG ["Innings"] "total" (λi j=>i+j) (aa 0) (ai aZ (aa 3) (mC (.int 0))))
   (ao (cF (mB (ai aZ (aa 3) (mC (.int 6))))
   (eV (aN "Innings" "change_ends" 1 Ju (aa 0) aj))
   aB)
   (ao (cF (mB (ai (cE true) (aa 4) (mC (.str ""))))
   (eV (aN "Innings" "fall" 3 TH (aa 0) (af (aa 4) (af (DW (mB (ai (cE false) (ai aZ (aa 2) (mC (.int 4))) (mC (.str "run")))) (ai aZ (aa 2) (mC (.int 6))) (mC (.str "strike"))) aj))))
   aB)
   (ao (cF (mB (ai aZ (aa 3) (mC (.int 4))))
   (eV (aN "Innings" "count_fair" 2 TL (aa 0) (af (ai aZ (aa 1) (mC (.int 0))) aj)))
   aB)
   (aE (aa 4))))))))
theorem abZ (T:Txt K mg a):aO P w K mg base eS 4 a.yf a.uW ["self","rules","entry"] (dS K (aG a) 3 G5):=
 aW T.Nq.F Om λ_ _ _ _ _ _=>(by have:=Om.nd;exists (cP (Oi T) T.Nn ?_),(bN (aQ T) (aby T) (ait T) (by decide) T.abp.b aF ?_ ?_),(r_ se (Aa T) ?_ ?_),(cH T.qY),(cH T.z_),(aT (aQ T) (EM T) (Oj T) (by decide) T.Np.b aF ?_),(bN (aQ T) (abz T) (aix T) (by decide) T.abq.b aF ?_ ?_),(cH T.yw),(bN (aQ T) (abA T) (aiz T) (by decide) T.abr.b aF ?_ ?_),(cH T.Jo))
noncomputable abbrev Xl:List Str:=["self","entry","going","ahead","out"]
theorem Oo:au Xl ["self","entry"] (ak VT):=fW
noncomputable def G6:Fn:=dI Xl (ao (aR 2 (aN "Match" "going" 1 jl (aa 0) aj))
   (ao (aR 3 (dO (af (ai dw (bA gy (af (bD ["Match"] "played" (aa 0)) aj)) (mC (.int 1))) (af (bD ["Innings"] "overs" (aa 2)) (af (bD ["Innings"] "balls" (aa 2)) (af (bD ["Innings"] "facing" (aa 2)) (af (bD ["Innings"] "other" (aa 2)) (af (bD ["Innings"] "bowler" (aa 2)) aj))))))))
   (ao (aR 4 (aN "Innings" "play" 3 G5 (aa 2) (af (bD ["Match"] "rules" (aa 0)) (af (aa 1) aj))))
   (eV (tV IL zw (bD ["Match"] "balls_told" (aa 0)) (af (ai c_ (aa 3) (dO (af (aa 1) (af (aa 4) aj)))) aj))))))
theorem ab0 (T:Txt K mg a):aO P w K mg base eS 5 a.yg a.uX ["self","entry"] (dS K (aG a) 2 G6):=
 aW T.Nr.F Oo λ_ _ _ _ _ _=>(by have:=Oo.nd;exists (aT (aA T) (f9 T) (iJ T) (by decide) T.jE.b aF ?_),(b_ jg T.jj zaL ?_),(aD (jO T) ?_),(aD (vG T) ?_),(aD (qD T) ?_),(aD (iI T) ?_),(aD (mT T) ?_),(aD (kZ T) ?_),(bN (aQ T) (Tg T) (abZ T) (by decide) T.Nq.b aF ?_ ?_),(aD (qE T) ?_),(qx zbg zbH zbI nZ mL ?_ ?_),(aD (EI T) ?_))
noncomputable abbrev aiA:List Str:=["self","name"]
theorem Xm:au aiA ["self","name"] (ak ah2):=fW
noncomputable def TM:Fn:=dI aiA (cF (mB (ai (cE false) (bD ["Innings"] "facing" (aa 0)) (mC (.str ""))))
   (cu ["Innings"] "facing" (aa 0) (aa 1))
   (cu ["Innings"] "other" (aa 0) (aa 1)))
theorem aiB (T:Txt K mg a):aO P w K mg base eS 2 a.Jk a.Cg ["self","name"] (dS K (aG a) 2 TM):=
 aW T.abt.F Xm λ_ _ _ _ _ _=>(by have:=Xm.nd;exists (aD (iI T) ?_),(a_ (iI T) ?_ ?_),(a_ (mT T) ?_ ?_))
noncomputable abbrev aiC:List Str:=["self","name"]
theorem Xn:au aiC ["self","name"] (ak ah3):=fW
noncomputable def TN:Fn:=dI aiC (ao (cu ["Innings"] "bowler" (aa 0) (aa 1))
   (nQ (bD ["Innings"] "spells" (aa 0)) (aa 1) (ai c_ (Gh (bD ["Innings"] "spells" (aa 0)) (aa 1) (mC (.int 0))) (mC (.int 1)))))
theorem aiD (T:Txt K mg a):aO P w K mg base eS 2 a.Jl a.Ci ["self","name"] (dS K (aG a) 2 TN):=
 aW T.abu.F Xn λ_ _ _ _ _ _=>(by have:=Xn.nd;exists (a_ (kZ T) ?_ ?_),(zx ?_ ?_ ?_),(aD (pO T) ?_),(Gi ?_ ?_ ?_))
noncomputable abbrev Xo:List Str:=["players","old","new"]
theorem Oq:au Xo ["players","old","new"] (ak M9):=fW
noncomputable def G7:Fn:=dI Xo (aE (fu (tZ iL (aa 0)) [2,1] 1 (bI 2) fY (DW (mB (ai (cE false) (aa 2) (aa 1))) (aa 0) (aa 2))))
theorem ab1 (T:Txt K mg a):aO P w K mg base eS 2 a.BS a.uY ["players","old","new"] (dS K (aG a) 3 G7):=
 aW T.Wu.F Oq λ_ _ _ _ _ _=>(by have:=Oq.nd;exists (ia (F:=["new","old"]) (T:=["name"]) (fr:=[2,1]) (Jb M9 (by decide +kernel)) ?_ (λ_ _ _ _ _=>?_) (λ_ _ _ _ _=>?_) (λ_ _ _ _ _=>?_)),(fU 2 (show (["new","old","name"]:List Str).Nodup by decide +kernel)))
noncomputable abbrev Xp:List Str:=["told","old","new"]
theorem Ot:au Xp ["told","old","new"] (ak M_):=fW
noncomputable def CA:Fn:=dI Xp (aE (bA zW (af (fu (tZ iD (aa 0)) [2,0,1] 1 (bI 3) fY (dO (af (DW (mB (ai (cE false) (aa 3) (aa 2))) (aa 0) (aa 3)) (af (ai MZ (aa 1) (aa 3)) aj)))) aj)))
theorem ab2 (T:Txt K mg a):aO P w K mg base eS 2 a.BU a.uZ ["told","old","new"] (dS K (aG a) 3 CA):=
 aW T.Wv.F Ot λ_ _ _ _ _ _=>(by have:=Ot.nd;exists (cK SR T.abn PyProof.Rows.boot_dict ?_),(ia (F:=["new","told","old"]) (T:=["name"]) (fr:=[2,0,1]) (Jb M_ (by decide +kernel)) ?_ (λ_ _ _ _ _=>?_) (λ_ _ _ _ _=>?_) (λ_ _ _ _ _=>?_)),(SQ ?_),(fU 3 (show (["new","told","old","name"]:List Str).Nodup by decide +kernel)),(abg ?_ ?_))
noncomputable abbrev Xq:List Str:=["self","old","new"]
theorem Ou:au Xq ["self","old","new"] (ak VU):=fW
noncomputable def G8:Fn:=dI Xq (ao (cu ["Innings"] "outs" (aa 0) (dR 3 CA (af (bD ["Innings"] "outs" (aa 0)) (af (aa 1) (af (aa 2) aj)))))
   (ao (cu ["Innings"] "spells" (aa 0) (dR 3 CA (af (bD ["Innings"] "spells" (aa 0)) (af (aa 1) (af (aa 2) aj)))))
   (cF (mB (ai (cE false) (bD ["Innings"] "ahead" (aa 0)) (aa 1)))
   (cu ["Innings"] "ahead" (aa 0) (aa 2))
   aB)))
theorem ab3 (T:Txt K mg a):aO P w K mg base eS 3 a.yh a.u5 ["self","old","new"] (dS K (aG a) 3 G8):=
 aW T.Nt.F Ou λ_ _ _ _ _ _=>(by have:=Ou.nd;exists (a_ (nA T) ?_ ?_),(cP (ab2 T) T.Wv ?_),(aD (nA T) ?_),(a_ (pO T) ?_ ?_),(aD (pO T) ?_),(aD (vF T) ?_),(a_ (vF T) ?_ ?_))
noncomputable abbrev Xr:List Str:=["self","old","new","going"]
theorem Ov:au Xr ["self","old","new"] (ak Na):=fW
noncomputable def G9:Fn:=dI Xr (ao (eV (tV IL zw (bD ["Match"] "known" (aa 0)) (af (aa 2) aj)))
   (ao (cu ["Match"] "sides" (aa 0) (fu (tZ iL (bD ["Match"] "sides" (aa 0))) [1,2] 2 (lF 2 (dH (bI 2) (dH (bI 3) qy))) fY (dO (af (aa 2) (af (dR 3 G7 (af (aa 3) (af (aa 0) (af (aa 1) aj)))) aj)))))
   (ao (aR 3 (aN "Match" "going" 1 jl (aa 0) aj))
   (cF (mB (ai (iT true) (aa 3) (mC .bw)))
   (eV (aN "Innings" "rename" 3 G8 (aa 3) (af (aa 1) (af (aa 2) aj))))
   aB))))
theorem ab4 (T:Txt K mg a):aO P w K mg base eS 4 a.yi a.u6 ["self","old","new"] (dS K (aG a) 3 G9):=
 aW T.Nu.F Ov λ_ _ _ _ _ _=>(by have:=Ov.nd;exists (qx zbg zbH zbI nZ mL ?_ ?_),(aD (EG T) ?_),(a_ (jk T) ?_ ?_),(ia (F:=["old","new"]) (T:=["name","players"]) (fr:=[1,2]) (Jb Na (by decide +kernel)) ?_ (λ_ _ _ _ _=>?_) (λ_ _ _ _ _=>?_) (λ_ _ _ _ _=>?_)),(aD (jk T) ?_),(n_ (n:=2) ?_),(fU 2 (show (["old","new","name","players"]:List Str).Nodup by decide +kernel)),(fU 3 (show (["old","new","name","players"]:List Str).Nodup by decide +kernel)),(cP (ab1 T) T.Wu ?_),(aT (aA T) (f9 T) (iJ T) (by decide) T.jE.b aF ?_),(bN (aQ T) (Ti T) (ab3 T) (by decide) T.Nt.b aF ?_ ?_))
noncomputable abbrev Xs:List Str:=["self","going"]
theorem Ow:au Xs ["self"] (ak VW):=fW
noncomputable def G_:Fn:=dI Xs (ao (cu ["Match"] "closed" (aa 0) (mC (.bl true)))
   (ao (aR 1 (aN "Match" "going" 1 jl (aa 0) aj))
   (cF (mB (ai (iT true) (aa 1) (mC .bw)))
   (cu ["Innings"] "ending" (aa 1) (mC (.str "closed")))
   aB)))
theorem ab5 (T:Txt K mg a):aO P w K mg base eS 3 a.yj a.u9 ["self"] (dS K (aG a) 1 G_):=
 aW T.Nv.F Ow λ_ _ _ _ _ _=>(by have:=Ow.nd;exists (a_ (EH T) ?_ ?_),(aT (aA T) (f9 T) (iJ T) (by decide) T.jE.b aF ?_),(a_ (vH T) ?_ ?_))
noncomputable abbrev Xu:List Str:=["self","entry","going","word"]
theorem Ox:au Xu ["self","entry"] (ak VX):=fW
noncomputable def vJ:Fn:=dI Xu (ao (aR 2 (aN "Match" "going" 1 jl (aa 0) aj))
   (ao (aR 3 (ai aZ (aa 1) (mC (.int 0))))
   (cF (mB (ai (cE false) (aa 3) (mC (.str "start"))))
   (eV (aN "Match" "begin" 2 G3 (aa 0) (af (aa 1) aj)))
   (cF (mB (ai (cE false) (aa 3) (mC (.str "ball"))))
   (eV (aN "Match" "play_ball" 2 G6 (aa 0) (af (aa 1) aj)))
   (cF (mB (ai (cE false) (aa 3) (mC (.str "in"))))
   (eV (aN "Innings" "come_in" 2 TM (aa 2) (af (ai aZ (aa 1) (mC (.int 1))) aj)))
   (cF (mB (ai (cE false) (aa 3) (mC (.str "bowl"))))
   (eV (aN "Innings" "bowl_next" 2 TN (aa 2) (af (ai aZ (aa 1) (mC (.int 1))) aj)))
   (cF (mB (ai (cE false) (aa 3) (mC (.str "hurt"))))
   (eV (aN "Innings" "leave" 2 Ol (aa 2) (af (ai aZ (aa 1) (mC (.int 1))) aj)))
   (cF (mB (ai (cE false) (aa 3) (mC (.str "swap"))))
   (eV (aN "Match" "swap_player" 3 G9 (aa 0) (af (ai aZ (aa 1) (mC (.int 1))) (af (ai aZ (aa 1) (mC (.int 2))) aj))))
   (cF (mB (ai (cE false) (aa 3) (mC (.str "declare"))))
   (cu ["Innings"] "ending" (aa 2) (mC (.str "declared")))
   (cF (mB (ai (cE false) (aa 3) (mC (.str "follow"))))
   (cu ["Match"] "followed" (aa 0) (mC (.bl true)))
   (eV (aN "Match" "close" 1 G_ (aa 0) aj))))))))))))
theorem ab6 (T:Txt K mg a):aO P w K mg base eS 8 a.yk a.u_ ["self","entry"] (dS K (aG a) 2 vJ):=
 aW T.Nx.F Ox λ_ _ _ _ _ _=>(by have:=Ox.nd;exists (aT (aA T) (f9 T) (iJ T) (by decide) T.jE.b aF ?_),(bN (aA T) (Tf T) (abX T) (by decide) T.Nm.b aF ?_ ?_),(bN (aA T) (Th T) (ab0 T) (by decide) T.Nr.b aF ?_ ?_),(bN (aQ T) (abC T) (aiB T) (by decide) T.abt.b aF ?_ ?_),(bN (aQ T) (abD T) (aiD T) (by decide) T.abu.b aF ?_ ?_),(bN (aQ T) (NJ T) (Xh T) (by decide) T.SW.b aF ?_ ?_),(bN (aA T) (Tj T) (ab4 T) (by decide) T.Nu.b aF ?_ ?_),(a_ (vH T) ?_ ?_),(a_ (Ab T) ?_ ?_),(aT (aA T) (Tn T) (ab5 T) (by decide) T.Nv.b aF ?_))
noncomputable abbrev aiE:List Str:=["self","players"]
theorem Xv:au aiE ["self","players"] (ak abl):=fW
noncomputable def TQ:Fn:=dI aiE (aE (bA RH (af (fu (tZ iL (aa 1)) [0] 1 (bI 1) fY (kK (ai (Bf true) (aa 1) (bD ["Innings"] "outs" (aa 0))) (IK (aN "Innings" "stands" 2 pP (aa 0) (af (aa 1) aj))))) aj)))
theorem aiF (T:Txt K mg a):aO P w K mg base eS 3 a.Jm a.Cj ["self","players"] (dS K (aG a) 2 TQ):=
 aW T.abv.F Xv λ_ _ _ _ _ _=>(by have:=Xv.nd;exists (b_ agE T.ah4 PyProof.Rows.boot_any ?_),(ia (F:=["self"]) (T:=["name"]) (fr:=[0]) (Jb abl (by decide +kernel)) ?_ (λ_ _ _ _ _=>?_) (λ_ _ _ _ _=>?_) (λ_ _ _ _ _=>?_)),(fU 1 (show (["self","name"]:List Str).Nodup by decide +kernel)),(RC ?_ ?_),(aD (nA T) ?_),(DY ?_),(bN (aQ T) (nD T) (qF T) (by decide) T.q8.b aF ?_ ?_))
noncomputable abbrev Xw:List Str:=["self","going"]
theorem Oz:au Xw ["self","going"] (ak VY):=fW
noncomputable def Hf:Fn:=dI Xw (ao (cF (jG (mB (ai (cE false) (bA gy (af (bD ["Match"] "played" (aa 0)) aj)) (aN "Match" "most_innings" 1 vI (aa 0) aj))) (mB (ai Z5 (aN "Match" "lead_of" 2 yz (aa 0) (af (bD ["Innings"] "side" (aa 1)) aj)) (mC (.int 0)))))
   (aE (mC (.str "won")))
   aB)
   (ao (cF (jG (mB (aN "Innings" "has_gap" 1 Jt (aa 1) aj)) (wK (mB (aN "Innings" "has_left" 2 TQ (aa 1) (af (ai aZ (ai aZ (bD ["Match"] "sides" (aa 0)) (bD ["Innings"] "side" (aa 1))) (mC (.int 1))) aj)))))
   (aE (mC (.str "out")))
   aB)
   (aE (DW (mB (mE Kh gLe (mC (.int 0)) (ai aZ (bD ["Match"] "rules" (aa 0)) (mC (.int 1))) (bD ["Innings"] "overs" (aa 1)))) (mC (.str "overs")) (mC (.str ""))))))
theorem ab7 (T:Txt K mg a):aO P w K mg base eS 4 a.ym a.vc ["self","going"] (dS K (aG a) 2 Hf):=
 aW T.Ny.F Oz λ_ _ _ _ _ _=>(by have:=Oz.nd;exists (b_ jg T.jj zaL ?_),(aD (jO T) ?_),(aT (aA T) (Ac T) (EN T) (by decide) T.Co.b aF ?_),(bN (aA T) (Ae T) (ER T) (by decide) T.Cp.b aF ?_ ?_),(aD (mS T) ?_),(aT (aQ T) (EL T) (N7 T) (by decide) T.Nk.b aF ?_),(bN (aQ T) (abE T) (aiF T) (by decide) T.abv.b aF ?_ ?_),(aD (jk T) ?_),(Ba L6 L7 ?_ ?_ ?_),(aD (qE T) ?_),(cH T.Ez),(aD (vG T) ?_))
noncomputable abbrev Xx:List Str:=["self","entry","rule","going"]
theorem OA:au Xx ["self","entry"] (ak VZ):=fW
noncomputable def rq:Fn:=fnX Xx (ao (aR 2 (aN "Match" "refusal" 2 rm (aa 0) (af (aa 1) aj)))
   (ao (cF (mB (ai (iT true) (aa 2) (mC .bw)))
   (zL "NotLet" 3 (gT2 "rule" "number") [.int 0] (af (fJ [(mC (.str "the rules don't let this entry: ")),(aam (aa 2))] Str.empty) (af (aa 2) aj)))
   aB)
   (ao (eV (aN "Match" "do" 2 vJ (aa 0) (af (aa 1) aj)))
   (ao (aR 3 (aN "Match" "going" 1 jl (aa 0) aj))
   (cF (mB (ai (iT true) (aa 3) (mC .bw)))
   (cu ["Innings"] "ending" (aa 3) (aN "Match" "ending_due" 2 Hf (aa 0) (af (aa 3) aj)))
   aB)))))
theorem ab8 (T:Txt K mg a):aO P w K mg base (wC P w) 9 a.yo a.vd ["self","entry"] (dS K (aG a) 2 rq):=
 aay T.Nz.F OA λ_ _ _ _ _ _=>(by have:=OA.nd;exists (bN (aA T) (Te T) (abW T) (by decide) T.Nl.b aF ?_ ?_),(Mz (c:= "NotLet") (n:=3) (g:=gE2 "rule" "number") (gT:=gT2 "rule" "number") (Gq:=[.int 0]) (m_:=[.int 0]) (yy T) (oF T) (by decide) (EJ T) T.yx (.cons ⟨_,rfl⟩ .nil) (λ_=>.cons d_ .nil) gR2 ?_),(R6 ?_),(R5 ?_ ?_),(aan ?_),aao,(bN (aA T) (To T) (ab6 T) (by decide) T.Nx.b aF ?_ ?_),(aT (aA T) (f9 T) (iJ T) (by decide) T.jE.b aF ?_),(a_ (vH T) ?_ ?_),(bN (aA T) (Tp T) (ab7 T) (by decide) T.Ny.b aF ?_ ?_))
noncomputable abbrev Xy:List Str:=["self","going","who"]
theorem OB:au Xy ["self"] (ak V0):=fW
noncomputable def Hg:Fn:=qU (dI Xy (ao (aR 1 (aN "Match" "going" 1 jl (aa 0) aj))
   (ao (cF (mB (ai (iT false) (aa 1) (mC .bw)))
   (aE (mC .bw))
   aB)
   (ao (aR 2 (dO (af (ai aZ (ai aZ (bD ["Match"] "sides" (aa 0)) (bD ["Innings"] "side" (aa 1))) (mC (.int 0))) (af (bD ["Innings"] "facing" (aa 1)) (af (bD ["Innings"] "other" (aa 1)) (af (bD ["Innings"] "bowler" (aa 1)) aj))))))
   (aE (ai c_ (aa 2) (dO (af (bD ["Innings"] "total" (aa 1)) (af (bD ["Innings"] "wickets" (aa 1)) (af (bD ["Innings"] "overs" (aa 1)) (af (bD ["Innings"] "balls" (aa 1)) aj)))))))))))
theorem ab9 (T:Txt K mg a):aO P w K mg base eS 3 a.yq a.ve ["self"] (dS K (aG a) 1 Hg):=
 aO.pure (aW T.NC.F OB λ_ _ _ _ _ _=>(by have:=OB.nd;exists (aT (aA T) (f9 T) (iJ T) (by decide) T.jE.b aF ?_),(aD (jk T) ?_),(aD (mS T) ?_),(aD (iI T) ?_),(aD (mT T) ?_),(aD (kZ T) ?_),(aD (Aa T) ?_),(aD (EF T) ?_),(aD (vG T) ?_),(aD (qD T) ?_)))
noncomputable abbrev Xz:List Str:=["self"]
theorem OC:au Xz ["self"] (ak Nb):=fW
noncomputable def CB:Fn:=dI Xz (aE (fu (tZ iL (bD ["Match"] "sides" (aa 0))) [] 2 (lF 2 (dH (bI 0) (dH (bI 1) qy))) fY (dO (af (aa 0) (af (bA pe (af (aa 1) aj)) aj)))))
theorem OD (T:Txt K mg a):aO P w K mg base eS 2 a.yr a.vf ["self"] (dS K (aG a) 1 CB):=
 aW T.GH.F OC λ_ _ _ _ _ _=>(by have:=OC.nd;exists (ia (F:=[]) (T:=["name","players"]) (fr:=[]) (Jb Nb (by decide +kernel)) ?_ (λ_ _ _ _ _=>?_) (λ_ _ _ _ _=>?_) (λ_ _ _ _ _=>?_)),(aD (jk T) ?_),(n_ (n:=2) ?_),(fU 0 (show (["name","players"]:List Str).Nodup by decide +kernel)),(fU 1 (show (["name","players"]:List Str).Nodup by decide +kernel)),(cK qw T.kY zaS ?_))
noncomputable abbrev XA:List Str:=["self","side"]
theorem OE:au XA ["self"] (ak V1):=fW
noncomputable def yC:Fn:=dI XA (ao (aR 1 (aN "Match" "next_side" 1 Cw (aa 0) aj))
   (aE (DW (mB (ai (iT false) (aa 1) (mC .bw))) (mC (.str "")) (ai aZ (ai aZ (bD ["Match"] "sides" (aa 0)) (aa 1)) (mC (.int 0))))))
theorem acd (T:Txt K mg a):aO P w K mg base eS 6 a.yt a.vg ["self"] (dS K (aG a) 1 yC):=
 aW T.ND.F OE λ_ _ _ _ _ _=>(by have:=OE.nd;exists (aT (aA T) (GJ T) (NY T) (by decide) T.GF.b aF ?_),(aD (jk T) ?_))
noncomputable abbrev XC:List Str:=["_law_draw","_law_match","_law_players","_law_at","_law_one","_law_other","_law_k"]
theorem ET:au XC ["_law_draw","_law_match"] (ak V2):=fW
noncomputable def Hh:Fn:=dI XC (ao (aR 2 (aN "Match" "players" 1 CB (aa 1) aj))
   (ao (cF (mB (ai (cE false) (dR 2 bM (af (aa 0) (af (mC (.int 4)) aj))) (mC (.int 0))))
   (aE (dO (af (mC (.str "follow")) aj)))
   aB)
   (ao (aR 3 (dR 2 bM (af (aa 0) (af (mC (.int 2)) aj))))
   (ao (cF (mB (ai (cE true) (aN "Match" "turn" 1 yC (aa 1) aj) (mC (.str ""))))
   (aR 3 (bA tT (af (ai (cE false) (aN "Match" "turn" 1 yC (aa 1) aj) (ai aZ (ai aZ (aa 2) (mC (.int 1))) (mC (.int 0)))) aj)))
   aB)
   (ao (RQ 4 5 (af (ai aZ (ai aZ (aa 2) (aa 3)) (mC (.int 1))) (af (ai aZ (ai aZ (aa 2) (ai dw (mC (.int 1)) (aa 3))) (mC (.int 1))) aj)))
   (ao (aR 6 (dR 2 bM (af (aa 0) (af (bA gy (af (aa 4) aj)) aj))))
   (aE (dO (af (mC (.str "start")) (af (ai aZ (ai aZ (aa 2) (aa 3)) (mC (.int 0))) (af (ai aZ (aa 4) (aa 6)) (af (ai aZ (aa 4) (ai qt (ai c_ (aa 6) (mC (.int 1))) (bA gy (af (aa 4) aj)))) (af (ai aZ (aa 5) (dR 2 bM (af (aa 0) (af (bA gy (af (aa 5) aj)) aj)))) aj)))))))))))))
theorem ace (T:Txt K mg a):aO P w K mg base eS 7 a.BV a.vh ["_law_draw","_law_match"] (dS K (aG a) 2 Hh):=
 aW T.Ww.F ET λ_ _ _ _ _ _=>(by have:=ET.nd;exists (aT (aA T) (GL T) (OD T) (by decide) T.GH.b aF ?_),(cP (oG T) T.qZ ?_),(aT (aA T) (Tu T) (acd T) (by decide) T.ND.b aF ?_),(cK Bh T.yv zbE ?_),(Mm (i:=4) (j:=5) ET.nd rfl rfl (by decide) rfl rfl ?_ rfl),(b_ jg T.jj zaL ?_))
noncomputable abbrev XD:List Str:=["_law_draw","_law_two","_law_kind","_law_runs","_law_way","_law_rope"]
theorem OF:au XD ["_law_draw","_law_two"] (ak V3):=fW
noncomputable def Hi:Fn:=dI XD (ao (aR 2 (ai aZ (jH (af (mC (.str "bat")) (af (mC (.str "bat")) (af (mC (.str "bat")) (af (mC (.str "bye")) (af (mC (.str "leg")) (af (mC (.str "wide")) (af (mC (.str "no")) (af (mC (.str "nobye")) aj))))))))) (dR 2 bM (af (aa 0) (af (mC (.int 8)) aj)))))
   (ao (aR 3 (ai aZ (jH (af (mC (.int 0)) (af (mC (.int 0)) (af (mC (.int 1)) (af (mC (.int 1)) (af (mC (.int 2)) (af (mC (.int 3)) (af (mC (.int 4)) (af (mC (.int 4)) (af (mC (.int 6)) (af (mC (.int 6)) (af (mC (.int 5)) (af (mC (.int 9)) aj))))))))))))) (dR 2 bM (af (aa 0) (af (mC (.int 12)) aj)))))
   (ao (aR 4 (dR 2 bM (af (aa 0) (af (mC (.int 9)) aj))))
   (ao (cF (mB (ai (cE false) (aa 4) (mC (.int 0))))
   (aE (dO (af (mC (.str "ball")) (af (aa 2) (af (aa 3) (af (mC (.bl false)) (af (mC (.str "run")) (af (ai aZ (aa 1) (dR 2 bM (af (aa 0) (af (mC (.int 2)) aj)))) (af (ai aZ (jH (af (mC (.str "strike")) (af (mC (.str "other")) aj))) (dR 2 bM (af (aa 0) (af (mC (.int 2)) aj)))) aj)))))))))
   aB)
   (ao (cF (jG (mB (ai (cE false) (aa 4) (mC (.int 1)))) (mB (ai (cE false) (aa 2) (mC (.str "bat")))))
   (aE (dO (af (mC (.str "ball")) (af (aa 2) (af (mC (.int 0)) (af (mC (.bl false)) (af (ai aZ (jH (af (mC (.str "bowled")) (af (mC (.str "caught")) (af (mC (.str "before")) (af (mC (.str "stumped")) (af (mC (.str "hit")) aj)))))) (dR 2 bM (af (aa 0) (af (mC (.int 5)) aj)))) (af (mC (.str "")) (af (mC (.str "")) aj)))))))))
   aB)
   (ao (cF (jG (mB (ai (cE false) (aa 4) (mC (.int 1)))) (mB (ai (cE false) (aa 2) (mC (.str "wide")))))
   (aE (dO (af (mC (.str "ball")) (af (aa 2) (af (mC (.int 0)) (af (mC (.bl false)) (af (ai aZ (jH (af (mC (.str "stumped")) (af (mC (.str "hit")) aj))) (dR 2 bM (af (aa 0) (af (mC (.int 2)) aj)))) (af (mC (.str "")) (af (mC (.str "")) aj)))))))))
   aB)
   (ao (aR 5 (U_ (ai (cE false) (aa 3) (mC (.int 4))) (kK (ai (cE false) (aa 3) (mC (.int 6))) (ai (xF false) (aa 2) (dO (af (mC (.str "bat")) (af (mC (.str "no")) aj)))))))
   (aE (dO (af (mC (.str "ball")) (af (aa 2) (af (aa 3) (af (kK (aa 5) (ai Z5 (dR 2 bM (af (aa 0) (af (mC (.int 4)) aj))) (mC (.int 0)))) (af (mC (.str "")) (af (mC (.str "")) (af (mC (.str "")) aj))))))))))))))))
theorem acf (T:Txt K mg a):aO P w K mg base eS 3 a.BW a.vj ["_law_draw","_law_two"] (dS K (aG a) 2 Hi):=
 aW T.Wx.F OF λ_ _ _ _ _ _=>(by have:=OF.nd;exists (cP (oG T) T.qZ ?_),(jb Bd ?_ ?_ (by with_unfolding_all rfl)))
noncomputable abbrev XE:List Str:=["_law_draw","_law_match","_law_state","_law_players","_law_at","_law_what","_law_old"]
theorem OG:au XE ["_law_draw","_law_match"] (ak V4):=fW
noncomputable def CD:Fn:=dI XE (ao (aR 2 (aN "Match" "state" 1 Hg (aa 1) aj))
   (ao (cF (mB (ai (iT false) (aa 2) (mC .bw)))
   (aE (dR 2 Hh (af (aa 0) (af (aa 1) aj))))
   aB)
   (ao (aR 3 (aN "Match" "players" 1 CB (aa 1) aj))
   (ao (aR 4 (bA tT (af (ai (cE false) (ai aZ (aa 2) (mC (.int 0))) (ai aZ (ai aZ (aa 3) (mC (.int 1))) (mC (.int 0)))) aj)))
   (ao (cF (DU (mB (ai (cE false) (ai aZ (aa 2) (mC (.int 1))) (mC (.str "")))) (mB (ai (cE false) (ai aZ (aa 2) (mC (.int 2))) (mC (.str "")))))
   (aE (dO (af (mC (.str "in")) (af (ai aZ (ai aZ (ai aZ (aa 3) (aa 4)) (mC (.int 1))) (dR 2 bM (af (aa 0) (af (bA gy (af (ai aZ (ai aZ (aa 3) (aa 4)) (mC (.int 1))) aj)) aj)))) aj))))
   aB)
   (ao (cF (mB (ai (cE false) (ai aZ (aa 2) (mC (.int 3))) (mC (.str ""))))
   (aE (dO (af (mC (.str "bowl")) (af (ai aZ (ai aZ (ai aZ (aa 3) (ai dw (mC (.int 1)) (aa 4))) (mC (.int 1))) (dR 2 bM (af (aa 0) (af (bA gy (af (ai aZ (ai aZ (aa 3) (aa 4)) (mC (.int 1))) aj)) aj)))) aj))))
   aB)
   (ao (aR 5 (dR 2 bM (af (aa 0) (af (mC (.int 24)) aj))))
   (ao (cF (mB (ai (cE false) (aa 5) (mC (.int 0))))
   (aE (dO (af (mC (.str "hurt")) (af (ai aZ (aa 2) (ai c_ (mC (.int 1)) (dR 2 bM (af (aa 0) (af (mC (.int 2)) aj))))) aj))))
   aB)
   (ao (cF (mB (ai (cE false) (aa 5) (mC (.int 1))))
   (ao (aR 6 (ai aZ (ai aZ (ai aZ (aa 3) (dR 2 bM (af (aa 0) (af (mC (.int 2)) aj)))) (mC (.int 1))) (dR 2 bM (af (aa 0) (af (bA gy (af (ai aZ (ai aZ (aa 3) (mC (.int 0))) (mC (.int 1))) aj)) aj)))))
   (aE (dO (af (mC (.str "swap")) (af (aa 6) (af (ai c_ (mC (.str "wx")) (ai aZ (mC (.str "abcdefghij")) (dR 2 bM (af (aa 0) (af (mC (.int 10)) aj))))) aj))))))
   aB)
   (ao (cF (jG (mB (ai (cE false) (aa 5) (mC (.int 2)))) (mB (ai (cE false) (dR 2 bM (af (aa 0) (af (mC (.int 3)) aj))) (mC (.int 0)))))
   (aE (dO (af (mC (.str "declare")) aj)))
   aB)
   (aE (dR 2 Hi (af (aa 0) (af (jH (af (ai aZ (aa 2) (mC (.int 1))) (af (ai aZ (aa 2) (mC (.int 2))) aj))) aj))))))))))))))
theorem acg (T:Txt K mg a):aO P w K mg base eS 8 a.BX a.vm ["_law_draw","_law_match"] (dS K (aG a) 2 CD):=
 aW T.Wy.F OG λ_ _ _ _ _ _=>(by have:=OG.nd;exists (aT (aA T) (Tt T) (ab9 T) (by decide) T.NC.b aF ?_),(cP (ace T) T.Ww ?_),(aT (aA T) (GL T) (OD T) (by decide) T.GH.b aF ?_),(cK Bh T.yv zbE ?_),(cP (oG T) T.qZ ?_),(b_ jg T.jj zaL ?_),(cP (acf T) T.Wx ?_))
noncomputable abbrev XF:List Str:=["_law_draw","_law_rules_here","_law_match","_law_k"]
theorem EU:au XF ["_law_draw"] (ak V5):=fW
noncomputable def Hj:Fn:=dI XF (ao (aR 1 (dR 1 GN (af (aa 0) aj)))
   (ao (aR 2 (xJ "Match" 3 GO (af (aa 1) (af (dR 2 GP (af (aa 0) (af (ai aZ (aa 1) (mC (.int 5))) aj))) aj))))
   (ao (Bm (xH (af (ai aZ (jH (af (mC (.int 12)) (af (mC (.int 30)) (af (mC (.int 60)) (af (mC (.int 90)) aj))))) (dR 2 bM (af (aa 0) (af (mC (.int 4)) aj)))) aj)) (bI 3)
   (Gr "Match" "tell" 2 rq (aa 2) (af (dR 2 CD (af (aa 0) (af (aa 2) aj))) aj) ["NotLet"] none
   Mj))
   (aE (jH (af (aa 1) (af (aa 2) aj)))))))
theorem ach (T:Txt K mg a):aO P w K mg base eS 10 a.BY a.vn ["_law_draw"] (dS K (aG a) 1 Hj):=
 aW T.Wz.F EU λ_ _ _ _ _ _=>(by have:=EU.nd;exists (cP (abG T) T.Wh ?_),(Gg (c:= "Match") (NH T) (abH T) (by decide) (Jr T) T.Wi.b aF ?_),(cP (abI T) T.Wj ?_),(t6 zcz ?_ ?_ ?_),(zA T.z8 ?_),(cP (oG T) T.qZ ?_),(fU 3 EU.nd),(IX (c:= "Match") (T.gr.M.alV) (Js T) (NI T) (aA T) (Tq T) (ab8 T) (by decide) T.Nz.b ?_ ?_ (λ_=>?_)),(cP (acg T) T.Wy ?_),Bl)
noncomputable abbrev XG:List Str:=["_law_draw","_law_log","_law_first"]
theorem OH:au XG ["_law_draw","_law_log"] (ak V6):=fW
noncomputable def Hl:Fn:=dI XG (ao (cF (mB (ai (cE false) (dR 2 bM (af (aa 0) (af (mC (.int 2)) aj))) (mC (.int 0))))
   (aE (bA pe (af (aa 1) aj)))
   aB)
   (ao (aR 2 (dR 2 bM (af (aa 0) (af (ai c_ (bA gy (af (aa 1) aj)) (mC (.int 1))) aj))))
   (aE (Kn vX (aa 1) (gV (aa 2)) (gV (ai c_ (aa 2) (dR 2 bM (af (aa 0) (af (ai c_ (ai dw (bA gy (af (aa 1) aj)) (aa 2)) (mC (.int 1))) aj)))))))))
theorem aci (T:Txt K mg a):aO P w K mg base eS 3 a.BZ a.vo ["_law_draw","_law_log"] (dS K (aG a) 2 Hl):=
 aW T.WA.F OH λ_ _ _ _ _ _=>(by have:=OH.nd;exists (cP (oG T) T.qZ ?_),(cK qw T.kY zaS ?_),(b_ jg T.jj zaL ?_))
noncomputable abbrev XH:List Str:=["self"]
theorem OI:au XH ["self"] (ak V7):=fW
noncomputable def Ho:Fn:=qU (dI XH (aE (bA pe (af (bD ["Match"] "balls_told" (aa 0)) aj))))
theorem acj (T:Txt K mg a):aO P w K mg base eS 2 a.yu a.vp ["self"] (dS K (aG a) 1 Ho):=
 aO.pure (aW T.NF.F OI λ_ _ _ _ _ _=>(by have:=OI.nd;exists (cK qw T.kY zaS ?_),(aD (EI T) ?_)))
noncomputable abbrev XI:List Str:=["_law_rules_here","_law_entry_here","_law_kind","_law_runs"]
theorem EV:au XI ["_law_rules_here","_law_entry_here"] (ak V8):=fW
noncomputable def CF:Fn:=dI XI (ao (RQ 2 3 (af (ai aZ (aa 1) (mC (.int 1))) (af (ai aZ (aa 1) (mC (.int 2))) aj)))
   (ao (cF (mB (ai (cE false) (aa 2) (mC (.str "bat"))))
   (aE (pC [((mC (.str "team")),(aa 3)),((mC (.str "bat")),(aa 3)),((mC (.str "charged")),(aa 3)),((mC (.str "fair")),(mC (.int 1))),((mC (.str "faced")),(mC (.int 1)))]))
   aB)
   (ao (cF (mB (ai (xF false) (aa 2) (dO (af (mC (.str "bye")) (af (mC (.str "leg")) aj)))))
   (aE (pC [((mC (.str "team")),(aa 3)),((mC (.str "bat")),(mC (.int 0))),((mC (.str "charged")),(mC (.int 0))),((mC (.str "fair")),(mC (.int 1))),((mC (.str "faced")),(mC (.int 1)))]))
   aB)
   (ao (cF (mB (ai (cE false) (aa 2) (mC (.str "wide"))))
   (aE (pC [((mC (.str "team")),(ai c_ (aa 3) (ai aZ (aa 0) (mC (.int 3))))),((mC (.str "bat")),(mC (.int 0))),((mC (.str "charged")),(ai c_ (aa 3) (ai aZ (aa 0) (mC (.int 3))))),((mC (.str "fair")),(mC (.int 0))),((mC (.str "faced")),(mC (.int 0)))]))
   aB)
   (ao (cF (mB (ai (cE false) (aa 2) (mC (.str "no"))))
   (aE (pC [((mC (.str "team")),(ai c_ (aa 3) (ai aZ (aa 0) (mC (.int 4))))),((mC (.str "bat")),(aa 3)),((mC (.str "charged")),(ai c_ (aa 3) (ai aZ (aa 0) (mC (.int 4))))),((mC (.str "fair")),(mC (.int 0))),((mC (.str "faced")),(mC (.int 1)))]))
   aB)
   (aE (pC [((mC (.str "team")),(ai c_ (aa 3) (ai aZ (aa 0) (mC (.int 4))))),((mC (.str "bat")),(mC (.int 0))),((mC (.str "charged")),(ai aZ (aa 0) (mC (.int 4)))),((mC (.str "fair")),(mC (.int 0))),((mC (.str "faced")),(mC (.int 1)))])))))))
theorem ack (T:Txt K mg a):aO P w K mg base eS 2 a.B0 a.vq ["_law_rules_here","_law_entry_here"] (dS K (aG a) 2 CF):=
 aW T.WB.F EV λ_ _ _ _ _ _=>(by have:=EV.nd;exists (Mm (i:=2) (j:=3) EV.nd rfl rfl (by decide) rfl rfl ?_ rfl),(zE ?_),(zD ?_ ?_ ?_),om,(gC Bd ?_ ?_ (by with_unfolding_all rfl)),om,om,om,om)
noncomputable abbrev OJ:List Str:=["_law_rules_here","_law_log","_law_due_here","_law_k","_law_two","_law_end","_law_counts_here","_law_runs"]
theorem EW:au OJ ["_law_rules_here","_law_log"] (ak GB):=fW
noncomputable def Hq:Fn:=dI OJ (ao (aR 2 (o9 aj))
   (ao (aR 3 (mC (.int 0)))
   (ao (oh 1002 (mB (ai Kh (aa 3) (bA gy (af (aa 1) aj))))
   (ao (aR 4 (bA kU (af (Kn vX (ai aZ (aa 1) (aa 3)) (gV (mC (.int 3))) (gV (mC (.int 5)))) aj)))
   (ao (aR 5 (aa 3))
   (ao (oh 1002 (jG (mB (ai Kh (aa 5) (bA gy (af (aa 1) aj)))) (jG (mB (ai (cE false) (ai aZ (ai aZ (aa 1) (aa 5)) (mC (.int 0))) (ai aZ (ai aZ (aa 1) (aa 3)) (mC (.int 0))))) (mB (ai (Ja false) (bA kU (af (Kn vX (ai aZ (aa 1) (aa 5)) (gV (mC (.int 3))) (gV (mC (.int 5)))) aj)) (aa 4)))))
   (aR 5 (ai c_ (aa 5) (mC (.int 1)))))
   (ao (aR 6 (fu (tZ iL (Kn vX (aa 1) (gV (aa 3)) (gV (aa 5)))) [0] 1 (bI 1) fY (dR 2 CF (af (aa 0) (af (ai aZ (aa 1) (mC (.int 6))) aj)))))
   (ao (aR 7 (bA tU (af (fu (tZ iL (aa 6)) [] 1 (bI 0) fY (ai jI (aa 0) (mC (.str "team")))) aj)))
   (ao (eV (tV IL zw (aa 2) (af (dO (af (ai aZ (ai aZ (aa 1) (aa 3)) (mC (.int 0))) (af (ai aZ (aa 4) (mC (.int 0))) (af (ai aZ (aa 4) (mC (.int 1))) (af (aa 7) (af (bA tU (af (fu (tZ iL (aa 6)) [] 1 (bI 0) fY (ai jI (aa 0) (mC (.str "fair")))) aj)) aj)))))) aj)))
   (aR 3 (aa 5)))))))))
   (aE (aa 2)))))
theorem acm (T:Txt K mg a):aO P w K mg base eS 3 a.B3 a.vt ["_law_rules_here","_law_log"] (dS K (aG a) 2 Hq):=
 aW T.WC.F EW λ_ _ _ _ _ _=>(by have:=EW.nd;exists (Mp 1002 zcz ?_ ?_),(b_ jg T.jj zaL ?_),(b_ Gz T.Ck pL ?_),(gC ahw ?_ ?_ (iF _)),(zB (target:=.Name "_law_told" _) (i0:=6) (F:=["_law_rules_here"]) (T:=["_law_told"]) (fr:=[0]) (Jb GB (by decide +kernel)) ?_ (λ_ _ _ _ _=>?_) (λ_ _ _ _ _=>?_) (λ_ _ _ _ _=>?_) EW.nd rfl rfl rfl),(fU 1 (show (["_law_rules_here","_law_told"]:List Str).Nodup by decide +kernel)),(cP (ack T) T.WB ?_),(b_ Vc T.We zez ?_),(ia (target:=.Name "_law_count" _) (F:=[]) (T:=["_law_count"]) (fr:=[]) (Jb GB (by decide +kernel)) ?_ (λ_ _ _ _ _=>?_) (λ_ _ _ _ _=>?_) (λ_ _ _ _ _=>?_)),(fU 0 (show (["_law_count"]:List Str).Nodup by decide +kernel)),(Mg ?_ ?_),(qx zbg zbH zbI nZ mL ?_ ?_))
noncomputable abbrev XJ:List Str:=["rules","entry","sums"]
theorem OL:au XJ ["rules","entry"] (ak V9):=fW
noncomputable def Hr:Fn:=dI XJ (ao (aR 2 (dR 2 Cz (af (aa 0) (af (aa 1) aj))))
   (aE (dO (af (ai aZ (aa 2) (mC (.int 0))) (af (bA tT (af (ai aZ (aa 2) (mC (.int 4))) aj)) aj)))))
theorem acn (T:Txt K mg a):aO P w K mg base eS 4 a.B4 a.vz ["rules","entry"] (dS K (aG a) 2 Hr):=
 aW T.WD.F OL λ_ _ _ _ _ _=>(by have:=OL.nd;exists (cP (Oi T) T.Nn ?_),(cH T.qY),(cK Bh T.yv zbE ?_),(cH T.yw))
noncomputable abbrev XM:List Str:=["one","two"]
theorem OM:au XM ["one","two"] (ak Nc):=fW
noncomputable def Hs:Fn:=dI XM (aE (bA mK (af (fu (qX (af (aa 0) (af (aa 1) aj))) [] 2 (lF 2 (dH (bI 0) (dH (bI 1) qy))) fY (ai c_ (aa 0) (aa 1))) aj)))
theorem aco (T:Txt K mg a):aO P w K mg base eS 2 a.B5 a.vA ["one","two"] (dS K (aG a) 2 Hs):=
 aW T.WE.F OM λ_ _ _ _ _ _=>(by have:=OM.nd;exists (cK zv T.ny zbx ?_),(ia (F:=[]) (T:=["first","second"]) (fr:=[]) (Jb Nc (by decide +kernel)) ?_ (λ_ _ _ _ _=>?_) (λ_ _ _ _ _=>?_) (λ_ _ _ _ _=>?_)),(Gu T.Wf ?_),(n_ (n:=2) ?_),(fU 0 (show (["first","second"]:List Str).Nodup by decide +kernel)),(fU 1 (show (["first","second"]:List Str).Nodup by decide +kernel)))
noncomputable abbrev XN:List Str:=["rules","log","told","innings","over","ball","facing","other","bowler","entry","out","key","part"]
theorem jP:au XN ["rules","log"] (ak V_):=fW
noncomputable def CG:Fn:=dI XN (ao (aR 2 (o9 aj))
   (ao (Bm (tZ iL (aa 1)) (lF 8 (dH (bI 3) (dH (bI 4) (dH (bI 5) (dH (bI 6) (dH (bI 7) (dH (bI 8) (dH (bI 9) (dH (bI 10) qy)))))))))
   (ao (aR 11 (ai c_ (dO (af (aa 3) aj)) (bA mK (af (bA kU (af (jH (af (aa 6) (af (aa 7) aj))) aj)) aj))))
   (ao (aR 12 (dR 2 Hr (af (aa 0) (af (aa 9) aj))))
   (cF (jG (mB (ai Z5 (bA gy (af (aa 2) aj)) (mC (.int 0)))) (mB (ai M5 (Kn vX (ai aZ (aa 2) (P5 rK (mC (.int 1)))) rZ (gV (mC (.int 3)))) (aa 11))))
   (Eb (ai c_ (aa 11) (dR 2 Hs (af (Kn vX (ai aZ (aa 2) (P5 rK (mC (.int 1)))) (gV (mC (.int 3))) rZ) (af (aa 12) aj)))) (aab (aa 2) (P5 rK (mC (.int 1)))))
   (eV (tV IL zw (aa 2) (af (ai c_ (aa 11) (aa 12)) aj)))))))
   (aE (aa 2))))
theorem acp (T:Txt K mg a):aO P w K mg base eS 5 a.B6 a.vD ["rules","log"] (dS K (aG a) 2 CG):=
 aW T.WG.F jP λ_ _ _ _ _ _=>(by have:=jP.nd;exists (t6 zcz ?_ ?_ ?_),(n_ (n:=8) ?_),(fU 3 jP.nd),(fU 4 jP.nd),(fU 5 jP.nd),(fU 6 jP.nd),(fU 7 jP.nd),(fU 8 jP.nd),(fU 9 jP.nd),(fU 10 jP.nd),(cK zv T.ny zbx ?_),(b_ Gz T.Ck pL ?_),(cP (acn T) T.WD ?_),(b_ jg T.jj zaL ?_),(gC ahU ?_ ?_ (iF _)),(cP (aco T) T.WE ?_),(qx zbg zbH zbI nZ mL ?_ ?_))
noncomputable abbrev aiG:List Str:=["_law_found","_law_due_here","_law_one","_law_two"]
theorem Ah:au aiG ["_law_found","_law_due_here"] (ak Wa):=fW
noncomputable def iP:Nat->Fn
 |0=>λ_ _=>.ay
 |n+1=>dI ["_law_found","_law_due_here","_law_one","_law_two"] (ao (cF (DU (mB (jx "list" (aa 1))) (mB (jx "tuple" (aa 1))))
   (ao (cF (mB (ai (cE true) (jx "list" (aa 1)) (jx "list" (aa 0))))
   (aE (mC (.bl false)))
   aB)
   (ao (cF (mB (ai (cE true) (jx "tuple" (aa 1)) (jx "tuple" (aa 0))))
   (aE (mC (.bl false)))
   aB)
   (ao (cF (mB (ai (cE true) (bA gy (af (aa 0) aj)) (bA gy (af (aa 1) aj))))
   (aE (mC (.bl false)))
   aB)
   (ao (Bm (qX (af (aa 0) (af (aa 1) aj))) (lF 2 (dH (bI 2) (dH (bI 3) qy)))
   (cF (wK (mB (dR 2 (iP n) (af (aa 2) (af (aa 3) aj)))))
   (aE (mC (.bl false)))
   aB))
   (aE (mC (.bl true)))))))
   aB)
   (ao (cF (mB (ai (iT false) (aa 1) (mC .bw)))
   (aE (ai (iT false) (aa 0) (mC .bw)))
   aB)
   (ao (cF (mB (jx "str" (aa 1)))
   (aE (kK (jx "str" (aa 0)) (ai (cE false) (aa 0) (aa 1))))
   aB)
   (aE (kK (jx "int" (aa 0)) (kK (IK (jx "bool" (aa 0))) (ai (cE false) (aa 0) (aa 1))))))))
theorem ON (T:Txt K mg a):∀n,aO P w K mg base eS (1+n) a.B7 a.vE ["_law_found","_law_due_here"] (dS K (aG a) 2 (iP n))
 |0=>alP T.q_.F Ah
 |n+1=>by
  have IH:=ON T n;have qe:iP (n+1)=dI ["_law_found","_law_due_here","_law_one","_law_two"] (ao (cF (DU (mB (jx "list" (aa 1))) (mB (jx "tuple" (aa 1))))
   (ao (cF (mB (ai (cE true) (jx "list" (aa 1)) (jx "list" (aa 0))))
   (aE (mC (.bl false)))
   aB)
   (ao (cF (mB (ai (cE true) (jx "tuple" (aa 1)) (jx "tuple" (aa 0))))
   (aE (mC (.bl false)))
   aB)
   (ao (cF (mB (ai (cE true) (bA gy (af (aa 0) aj)) (bA gy (af (aa 1) aj))))
   (aE (mC (.bl false)))
   aB)
   (ao (Bm (qX (af (aa 0) (af (aa 1) aj))) (lF 2 (dH (bI 2) (dH (bI 3) qy)))
   (cF (wK (mB (dR 2 (iP n) (af (aa 2) (af (aa 3) aj)))))
   (aE (mC (.bl false)))
   aB))
   (aE (mC (.bl true)))))))
   aB)
   (ao (cF (mB (ai (iT false) (aa 1) (mC .bw)))
   (aE (ai (iT false) (aa 0) (mC .bw)))
   aB)
   (ao (cF (mB (jx "str" (aa 1)))
   (aE (kK (jx "str" (aa 0)) (ai (cE false) (aa 0) (aa 1))))
   aB)
   (aE (kK (jx "int" (aa 0)) (kK (IK (jx "bool" (aa 0))) (ai (cE false) (aa 0) (aa 1)))))))):=rfl
  rw[qe];exact aW (k:=1+n) T.q_.F Ah λfC A outer s H E=>(jA (qT (Kd.t (U9 (tK (jJ (u:= "list") T.cM T.kY zaS (c9 1))) (L4 (tK (jJ (u:= "tuple") T.cM T.ny zbx (c9 1))))))
   (jA (qT (gC Ma (jJ (u:= "list") T.cM T.kY zaS (c9 1)) (jJ (u:= "list") T.cM T.kY zaS (c9 0)) (iF _))
   (jK (kQ xE))
   mO)
   (jA (qT (gC Ma (jJ (u:= "tuple") T.cM T.ny zbx (c9 1)) (jJ (u:= "tuple") T.cM T.ny zbx (c9 0)) (iF _))
   (jK (kQ xE))
   mO)
   (jA (qT (gC Ma (b_ jg T.jj zaL (kN (c9 0) tM)) (b_ jg T.jj zaL (kN (c9 1) tM)) (iF _))
   (jK (kQ xE))
   mO)
   (jA (t6 zcz (Gu T.Wf (kN (c9 0) (kN (c9 1) tM))) (n_ (n:=2) (tX (fU 2 Ah.nd) (tX (fU 3 Ah.nd) F_)))
   (jK (qT (L1 (tK (zC IH (zah _) T.q_.m T.q_.F.kp T.q_.b aF (kN (c9 2) (kN (c9 3) tM)))))
   (jK (kQ xE))
   mO)))
   (jK (kQ xE))))))
   mO)
   (jA (qT (gC RB (c9 1) DT (iF _))
   (jK (kQ (jb RB (c9 0) DT (iF _))))
   mO)
   (jA (qT (tK (jJ (u:= "str") T.cM T.Wc zeA (c9 1)))
   (jK (kQ (zm (jJ (u:= "str") T.cM T.Wc zeA (c9 0)) (DX (jb RA (c9 0) (c9 1) (iF _))))))
   mO)
   (jK (kQ (zm (jJ (u:= "int") T.cM T.yv zbE (c9 0)) (zm (DY (jJ (u:= "bool") T.cM T.abm PyProof.Rows.boot_bool (c9 0))) (DX (jb RA (c9 0) (c9 1) (iF _))))))))))
noncomputable abbrev XO:List Str:=["_law_script","_law_draw","_law_rules_here","_law_match","_law_log","_law_handed","_law_due_here","_law_found"]
theorem Ai:au XO ["_law_script"] (ak Wb):=fW
noncomputable def OO:Fn:=dI XO (ao (aR 1 (dR 1 Cr (af (aa 0) aj)))
   (ao (Eb (dR 1 Hj (af (aa 1) aj)) (Ga 2 (dH (bI 2) (dH (bI 3) qy))))
   (ao (aR 4 (dR 2 Hl (af (aa 1) (af (aN "Match" "log" 1 Ho (aa 3) aj) aj))))
   (ao (aR 5 (bA pe (af (aa 4) aj)))
   (ao (aR 6 (dR 2 Hq (af (aa 2) (af (aa 4) aj))))
   (ao (aR 7 (dR 2 CG (af (aa 2) (af (aa 5) aj))))
   (ao (cF (DU (wK (mB (dR 2 (iP 3) (af (aa 7) (af (aa 6) aj))))) (mB (ai (cE true) (aa 5) (aa 4))))
   (aE (mC (.bl false)))
   aB)
   (ao (eV (tV IL tW (aa 7) aj))
   (aE (dR 2 (iP 3) (af (dR 2 CG (af (aa 2) (af (aa 5) aj))) (af (aa 6) aj))))))))))))
theorem acq (T:Txt K mg a):aO P w K mg base eS 11 a.B8 a.oA ["_law_script"] (dS K (aG a) 1 OO):=
 aW T.NG.F Ai λ_ _ _ _ _ _=>(by have:=Ai.nd;exists (cP (abF T) T.Wg ?_),(cP (ach T) T.Wz ?_),(RO (n:=2) ?_),(fU 2 Ai.nd),(fU 3 Ai.nd),(cP (aci T) T.WA ?_),(aT (aA T) (Tv T) (acj T) (by decide) T.NF.b aF ?_),(cK qw T.kY zaS ?_),(cP (acm T) T.WC ?_),(cP (acp T) T.WG ?_),(zC (ON T 3) (by decide) T.q_.m T.q_.F.kp T.q_.b aF ?_),(RJ zbg PySem.F.slot_list_clear PySem.F.type_list_clear nZ RM ?_))
end
theorem Aj (c:Nat):Str.length ⟨#[c]⟩=1:=rfl
theorem TR (a b:Str):(a++b).length=a.length+b.length:=by
 have:(a++b).cps.toList.length=a.cps.toList.length+b.cps.toList.length:=by rw[LF,zak]
 simpa[Str.length] using this
theorem TU (l:List Tr)(i j:Nat)(h:i<=j):wL l (some (i:Int)) (some (j:Int))=(l.take j).drop i:=by
 unfold wL;simp only[HT.QO];rw[List.drop_take];by_cases h1:i<=l.length
 ·rw[zdo h1]
  by_cases h2:j<=l.length
  ·rw[zdo h2]
  ·rw[Nat.min_eq_right (by omega)]
   rw[zby (by simp),zby (by simp;omega)]
 ·rw[zer (as:=l) (i:=i) (by omega),zer (as:=l) (i:=min i l.length) (by rw[Nat.min_eq_right (by omega)];exact zah _)]
  simp
section
variable {x0 x1 x2 x3 x4 x5 x6 x7 x8 x9 iB iw v:Tr}
noncomputable abbrev mr (x0 x1 x2 x3 x4 x5 x6:Tr):List (Str×Tr):=[("rules",x0),("sides",x1),("known",x2),("played",x3),("followed",x4),("closed",x5),("balls_told",x6)]
noncomputable abbrev ir (x0 x1 x2 x3 x4 x5 x6 x7 x8 x9 iB iw:Tr):List (Str×Tr):=[("side",x0),("facing",x1),("other",x2),("bowler",x3),("ahead",x4),("total",x5),("wickets",x6),("overs",x7),("balls",x8),("ending",x9),("outs",iB),("spells",iw)]
theorem acr:cC ("rules" : Str) v ([]:List (Str×Tr))=([("rules",v)]:List (Str×Tr)):=by kernel_rfl
theorem acs:aP ("rules" : Str) (mr x0 x1 x2 x3 x4 x5 x6)=some x0:=by kernel_rfl
theorem acu:cC ("sides" : Str) v ([("rules",x0)]:List (Str×Tr))=([("rules",x0),("sides",v)]:List (Str×Tr)):=by kernel_rfl
theorem acv:aP ("sides" : Str) (mr x0 x1 x2 x3 x4 x5 x6)=some x1:=by kernel_rfl
theorem acw:cC ("sides" : Str) v (mr x0 x1 x2 x3 x4 x5 x6)=([("rules",x0),("sides",v),("known",x2),("played",x3),("followed",x4),("closed",x5),("balls_told",x6)]:List (Str×Tr)):=by kernel_rfl
theorem acy:cC ("known" : Str) v ([("rules",x0),("sides",x1)]:List (Str×Tr))=([("rules",x0),("sides",x1),("known",v)]:List (Str×Tr)):=by kernel_rfl
theorem acz:aP ("known" : Str) (mr x0 x1 x2 x3 x4 x5 x6)=some x2:=by kernel_rfl
theorem acA:cC ("played" : Str) v ([("rules",x0),("sides",x1),("known",x2)]:List (Str×Tr))=([("rules",x0),("sides",x1),("known",x2),("played",v)]:List (Str×Tr)):=by kernel_rfl
theorem acB:aP ("played" : Str) (mr x0 x1 x2 x3 x4 x5 x6)=some x3:=by kernel_rfl
theorem acC:cC ("followed" : Str) v ([("rules",x0),("sides",x1),("known",x2),("played",x3)]:List (Str×Tr))=([("rules",x0),("sides",x1),("known",x2),("played",x3),("followed",v)]:List (Str×Tr)):=by kernel_rfl
theorem acD:aP ("followed" : Str) (mr x0 x1 x2 x3 x4 x5 x6)=some x4:=by kernel_rfl
theorem acE:cC ("followed" : Str) v (mr x0 x1 x2 x3 x4 x5 x6)=([("rules",x0),("sides",x1),("known",x2),("played",x3),("followed",v),("closed",x5),("balls_told",x6)]:List (Str×Tr)):=by kernel_rfl
theorem acF:cC ("closed" : Str) v ([("rules",x0),("sides",x1),("known",x2),("played",x3),("followed",x4)]:List (Str×Tr))=([("rules",x0),("sides",x1),("known",x2),("played",x3),("followed",x4),("closed",v)]:List (Str×Tr)):=by kernel_rfl
theorem acG:aP ("closed" : Str) (mr x0 x1 x2 x3 x4 x5 x6)=some x5:=by kernel_rfl
theorem acH:cC ("closed" : Str) v (mr x0 x1 x2 x3 x4 x5 x6)=([("rules",x0),("sides",x1),("known",x2),("played",x3),("followed",x4),("closed",v),("balls_told",x6)]:List (Str×Tr)):=by kernel_rfl
theorem acI:cC ("balls_told" : Str) v ([("rules",x0),("sides",x1),("known",x2),("played",x3),("followed",x4),("closed",x5)]:List (Str×Tr))=([("rules",x0),("sides",x1),("known",x2),("played",x3),("followed",x4),("closed",x5),("balls_told",v)]:List (Str×Tr)):=by kernel_rfl
theorem acJ:aP ("balls_told" : Str) (mr x0 x1 x2 x3 x4 x5 x6)=some x6:=by kernel_rfl
theorem acK:aP ("going" : Str) (mr x0 x1 x2 x3 x4 x5 x6)=none:=by kernel_rfl
theorem acL:aP ("state" : Str) (mr x0 x1 x2 x3 x4 x5 x6)=none:=by kernel_rfl
theorem acM:aP ("most_innings" : Str) (mr x0 x1 x2 x3 x4 x5 x6)=none:=by kernel_rfl
theorem acN:aP ("total_of" : Str) (mr x0 x1 x2 x3 x4 x5 x6)=none:=by kernel_rfl
theorem acO:aP ("lead_of" : Str) (mr x0 x1 x2 x3 x4 x5 x6)=none:=by kernel_rfl
theorem acP:aP ("is_done" : Str) (mr x0 x1 x2 x3 x4 x5 x6)=none:=by kernel_rfl
theorem acQ:aP ("next_side" : Str) (mr x0 x1 x2 x3 x4 x5 x6)=none:=by kernel_rfl
theorem acR:aP ("may_follow" : Str) (mr x0 x1 x2 x3 x4 x5 x6)=none:=by kernel_rfl
theorem acS:aP ("side_to_start" : Str) (mr x0 x1 x2 x3 x4 x5 x6)=none:=by kernel_rfl
theorem acT:aP ("start_refusal" : Str) (mr x0 x1 x2 x3 x4 x5 x6)=none:=by kernel_rfl
theorem acU:aP ("swap_refusal" : Str) (mr x0 x1 x2 x3 x4 x5 x6)=none:=by kernel_rfl
theorem acV:aP ("follow_refusal" : Str) (mr x0 x1 x2 x3 x4 x5 x6)=none:=by kernel_rfl
theorem acW:aP ("refusal" : Str) (mr x0 x1 x2 x3 x4 x5 x6)=none:=by kernel_rfl
theorem acX:aP ("begin" : Str) (mr x0 x1 x2 x3 x4 x5 x6)=none:=by kernel_rfl
theorem acY:aP ("play_ball" : Str) (mr x0 x1 x2 x3 x4 x5 x6)=none:=by kernel_rfl
theorem acZ:aP ("swap_player" : Str) (mr x0 x1 x2 x3 x4 x5 x6)=none:=by kernel_rfl
theorem ac0:aP ("close" : Str) (mr x0 x1 x2 x3 x4 x5 x6)=none:=by kernel_rfl
theorem ac1:aP ("do" : Str) (mr x0 x1 x2 x3 x4 x5 x6)=none:=by kernel_rfl
theorem ac2:aP ("ending_due" : Str) (mr x0 x1 x2 x3 x4 x5 x6)=none:=by kernel_rfl
theorem ac3:aP ("tell" : Str) (mr x0 x1 x2 x3 x4 x5 x6)=none:=by kernel_rfl
theorem ac4:aP ("turn" : Str) (mr x0 x1 x2 x3 x4 x5 x6)=none:=by kernel_rfl
theorem ac5:aP ("players" : Str) (mr x0 x1 x2 x3 x4 x5 x6)=none:=by kernel_rfl
theorem ac6:aP ("log" : Str) (mr x0 x1 x2 x3 x4 x5 x6)=none:=by kernel_rfl
theorem OP:(("Match" : Str)∈(["Match"]:List Str))=True:=eq_true (zbs.mpr rfl)
theorem ac7:cC ("side" : Str) v ([]:List (Str×Tr))=([("side",v)]:List (Str×Tr)):=by kernel_rfl
theorem ac8:aP ("side" : Str) (ir x0 x1 x2 x3 x4 x5 x6 x7 x8 x9 iB iw)=some x0:=by kernel_rfl
theorem ac9:cC ("facing" : Str) v ([("side",x0)]:List (Str×Tr))=([("side",x0),("facing",v)]:List (Str×Tr)):=by kernel_rfl
theorem ada:aP ("facing" : Str) (ir x0 x1 x2 x3 x4 x5 x6 x7 x8 x9 iB iw)=some x1:=by kernel_rfl
theorem adb:cC ("facing" : Str) v (ir x0 x1 x2 x3 x4 x5 x6 x7 x8 x9 iB iw)=([("side",x0),("facing",v),("other",x2),("bowler",x3),("ahead",x4),("total",x5),("wickets",x6),("overs",x7),("balls",x8),("ending",x9),("outs",iB),("spells",iw)]:List (Str×Tr)):=by kernel_rfl
theorem ade:cC ("other" : Str) v ([("side",x0),("facing",x1)]:List (Str×Tr))=([("side",x0),("facing",x1),("other",v)]:List (Str×Tr)):=by kernel_rfl
theorem adf:aP ("other" : Str) (ir x0 x1 x2 x3 x4 x5 x6 x7 x8 x9 iB iw)=some x2:=by kernel_rfl
theorem adg:cC ("other" : Str) v (ir x0 x1 x2 x3 x4 x5 x6 x7 x8 x9 iB iw)=([("side",x0),("facing",x1),("other",v),("bowler",x3),("ahead",x4),("total",x5),("wickets",x6),("overs",x7),("balls",x8),("ending",x9),("outs",iB),("spells",iw)]:List (Str×Tr)):=by kernel_rfl
theorem adh:cC ("bowler" : Str) v ([("side",x0),("facing",x1),("other",x2)]:List (Str×Tr))=([("side",x0),("facing",x1),("other",x2),("bowler",v)]:List (Str×Tr)):=by kernel_rfl
theorem adi:aP ("bowler" : Str) (ir x0 x1 x2 x3 x4 x5 x6 x7 x8 x9 iB iw)=some x3:=by kernel_rfl
theorem adj:cC ("bowler" : Str) v (ir x0 x1 x2 x3 x4 x5 x6 x7 x8 x9 iB iw)=([("side",x0),("facing",x1),("other",x2),("bowler",v),("ahead",x4),("total",x5),("wickets",x6),("overs",x7),("balls",x8),("ending",x9),("outs",iB),("spells",iw)]:List (Str×Tr)):=by kernel_rfl
theorem adk:cC ("ahead" : Str) v ([("side",x0),("facing",x1),("other",x2),("bowler",x3)]:List (Str×Tr))=([("side",x0),("facing",x1),("other",x2),("bowler",x3),("ahead",v)]:List (Str×Tr)):=by kernel_rfl
theorem adl:aP ("ahead" : Str) (ir x0 x1 x2 x3 x4 x5 x6 x7 x8 x9 iB iw)=some x4:=by kernel_rfl
theorem adm:cC ("ahead" : Str) v (ir x0 x1 x2 x3 x4 x5 x6 x7 x8 x9 iB iw)=([("side",x0),("facing",x1),("other",x2),("bowler",x3),("ahead",v),("total",x5),("wickets",x6),("overs",x7),("balls",x8),("ending",x9),("outs",iB),("spells",iw)]:List (Str×Tr)):=by kernel_rfl
theorem adn:cC ("total" : Str) v ([("side",x0),("facing",x1),("other",x2),("bowler",x3),("ahead",x4)]:List (Str×Tr))=([("side",x0),("facing",x1),("other",x2),("bowler",x3),("ahead",x4),("total",v)]:List (Str×Tr)):=by kernel_rfl
theorem ado:aP ("total" : Str) (ir x0 x1 x2 x3 x4 x5 x6 x7 x8 x9 iB iw)=some x5:=by kernel_rfl
theorem adp:cC ("total" : Str) v (ir x0 x1 x2 x3 x4 x5 x6 x7 x8 x9 iB iw)=([("side",x0),("facing",x1),("other",x2),("bowler",x3),("ahead",x4),("total",v),("wickets",x6),("overs",x7),("balls",x8),("ending",x9),("outs",iB),("spells",iw)]:List (Str×Tr)):=by kernel_rfl
theorem adq:cC ("wickets" : Str) v ([("side",x0),("facing",x1),("other",x2),("bowler",x3),("ahead",x4),("total",x5)]:List (Str×Tr))=([("side",x0),("facing",x1),("other",x2),("bowler",x3),("ahead",x4),("total",x5),("wickets",v)]:List (Str×Tr)):=by kernel_rfl
theorem ads:aP ("wickets" : Str) (ir x0 x1 x2 x3 x4 x5 x6 x7 x8 x9 iB iw)=some x6:=by kernel_rfl
theorem adt:cC ("wickets" : Str) v (ir x0 x1 x2 x3 x4 x5 x6 x7 x8 x9 iB iw)=([("side",x0),("facing",x1),("other",x2),("bowler",x3),("ahead",x4),("total",x5),("wickets",v),("overs",x7),("balls",x8),("ending",x9),("outs",iB),("spells",iw)]:List (Str×Tr)):=by kernel_rfl
theorem adu:cC ("overs" : Str) v ([("side",x0),("facing",x1),("other",x2),("bowler",x3),("ahead",x4),("total",x5),("wickets",x6)]:List (Str×Tr))=([("side",x0),("facing",x1),("other",x2),("bowler",x3),("ahead",x4),("total",x5),("wickets",x6),("overs",v)]:List (Str×Tr)):=by kernel_rfl
theorem adv:aP ("overs" : Str) (ir x0 x1 x2 x3 x4 x5 x6 x7 x8 x9 iB iw)=some x7:=by kernel_rfl
theorem adw:cC ("overs" : Str) v (ir x0 x1 x2 x3 x4 x5 x6 x7 x8 x9 iB iw)=([("side",x0),("facing",x1),("other",x2),("bowler",x3),("ahead",x4),("total",x5),("wickets",x6),("overs",v),("balls",x8),("ending",x9),("outs",iB),("spells",iw)]:List (Str×Tr)):=by kernel_rfl
theorem adx:cC ("balls" : Str) v ([("side",x0),("facing",x1),("other",x2),("bowler",x3),("ahead",x4),("total",x5),("wickets",x6),("overs",x7)]:List (Str×Tr))=([("side",x0),("facing",x1),("other",x2),("bowler",x3),("ahead",x4),("total",x5),("wickets",x6),("overs",x7),("balls",v)]:List (Str×Tr)):=by kernel_rfl
theorem ady:aP ("balls" : Str) (ir x0 x1 x2 x3 x4 x5 x6 x7 x8 x9 iB iw)=some x8:=by kernel_rfl
theorem adz:cC ("balls" : Str) v (ir x0 x1 x2 x3 x4 x5 x6 x7 x8 x9 iB iw)=([("side",x0),("facing",x1),("other",x2),("bowler",x3),("ahead",x4),("total",x5),("wickets",x6),("overs",x7),("balls",v),("ending",x9),("outs",iB),("spells",iw)]:List (Str×Tr)):=by kernel_rfl
theorem adA:cC ("ending" : Str) v ([("side",x0),("facing",x1),("other",x2),("bowler",x3),("ahead",x4),("total",x5),("wickets",x6),("overs",x7),("balls",x8)]:List (Str×Tr))=([("side",x0),("facing",x1),("other",x2),("bowler",x3),("ahead",x4),("total",x5),("wickets",x6),("overs",x7),("balls",x8),("ending",v)]:List (Str×Tr)):=by kernel_rfl
theorem adB:aP ("ending" : Str) (ir x0 x1 x2 x3 x4 x5 x6 x7 x8 x9 iB iw)=some x9:=by kernel_rfl
theorem adC:cC ("ending" : Str) v (ir x0 x1 x2 x3 x4 x5 x6 x7 x8 x9 iB iw)=([("side",x0),("facing",x1),("other",x2),("bowler",x3),("ahead",x4),("total",x5),("wickets",x6),("overs",x7),("balls",x8),("ending",v),("outs",iB),("spells",iw)]:List (Str×Tr)):=by kernel_rfl
theorem TX:cC ("outs" : Str) v ([("side",x0),("facing",x1),("other",x2),("bowler",x3),("ahead",x4),("total",x5),("wickets",x6),("overs",x7),("balls",x8),("ending",x9)]:List (Str×Tr))=([("side",x0),("facing",x1),("other",x2),("bowler",x3),("ahead",x4),("total",x5),("wickets",x6),("overs",x7),("balls",x8),("ending",x9),("outs",v)]:List (Str×Tr)):=by kernel_rfl
theorem TY:aP ("outs" : Str) (ir x0 x1 x2 x3 x4 x5 x6 x7 x8 x9 iB iw)=some iB:=by kernel_rfl
theorem TZ:cC ("outs" : Str) v (ir x0 x1 x2 x3 x4 x5 x6 x7 x8 x9 iB iw)=([("side",x0),("facing",x1),("other",x2),("bowler",x3),("ahead",x4),("total",x5),("wickets",x6),("overs",x7),("balls",x8),("ending",x9),("outs",v),("spells",iw)]:List (Str×Tr)):=by kernel_rfl
theorem T4:cC ("spells" : Str) v ([("side",x0),("facing",x1),("other",x2),("bowler",x3),("ahead",x4),("total",x5),("wickets",x6),("overs",x7),("balls",x8),("ending",x9),("outs",iB)]:List (Str×Tr))=([("side",x0),("facing",x1),("other",x2),("bowler",x3),("ahead",x4),("total",x5),("wickets",x6),("overs",x7),("balls",x8),("ending",x9),("outs",iB),("spells",v)]:List (Str×Tr)):=by kernel_rfl
theorem T5:aP ("spells" : Str) (ir x0 x1 x2 x3 x4 x5 x6 x7 x8 x9 iB iw)=some iw:=by kernel_rfl
theorem T6:cC ("spells" : Str) v (ir x0 x1 x2 x3 x4 x5 x6 x7 x8 x9 iB iw)=([("side",x0),("facing",x1),("other",x2),("bowler",x3),("ahead",x4),("total",x5),("wickets",x6),("overs",x7),("balls",x8),("ending",x9),("outs",iB),("spells",v)]:List (Str×Tr)):=by kernel_rfl
theorem adD:aP ("stands" : Str) (ir x0 x1 x2 x3 x4 x5 x6 x7 x8 x9 iB iw)=none:=by kernel_rfl
theorem aiH:aP ("has_gap" : Str) (ir x0 x1 x2 x3 x4 x5 x6 x7 x8 x9 iB iw)=none:=by kernel_rfl
theorem aiI:aP ("has_left" : Str) (ir x0 x1 x2 x3 x4 x5 x6 x7 x8 x9 iB iw)=none:=by kernel_rfl
theorem aiJ:aP ("change_ends" : Str) (ir x0 x1 x2 x3 x4 x5 x6 x7 x8 x9 iB iw)=none:=by kernel_rfl
theorem aiK:aP ("leave" : Str) (ir x0 x1 x2 x3 x4 x5 x6 x7 x8 x9 iB iw)=none:=by kernel_rfl
theorem aiL:aP ("come_in" : Str) (ir x0 x1 x2 x3 x4 x5 x6 x7 x8 x9 iB iw)=none:=by kernel_rfl
theorem aiM:aP ("bowl_next" : Str) (ir x0 x1 x2 x3 x4 x5 x6 x7 x8 x9 iB iw)=none:=by kernel_rfl
theorem aiN:aP ("out_by" : Str) (ir x0 x1 x2 x3 x4 x5 x6 x7 x8 x9 iB iw)=none:=by kernel_rfl
theorem aiO:aP ("fall" : Str) (ir x0 x1 x2 x3 x4 x5 x6 x7 x8 x9 iB iw)=none:=by kernel_rfl
theorem aiP:aP ("count_fair" : Str) (ir x0 x1 x2 x3 x4 x5 x6 x7 x8 x9 iB iw)=none:=by kernel_rfl
theorem adE:aP ("play" : Str) (ir x0 x1 x2 x3 x4 x5 x6 x7 x8 x9 iB iw)=none:=by kernel_rfl
theorem adF:aP ("rename" : Str) (ir x0 x1 x2 x3 x4 x5 x6 x7 x8 x9 iB iw)=none:=by kernel_rfl
theorem EX:(("Innings" : Str)∈(["Innings"]:List Str))=True:=eq_true (zbs.mpr rfl)
end
def fx:=jp @acr<|jp @acs<|jp @acu<|jp @acv<|jp @acw<|jp @acy<|jp @acz<|jp @acA<|jp @acB<|jp @acC<|jp @acD<|jp @acE<|jp @acF<|jp @acG<|jp @acH<|jp @acI<|jp @acJ<|jp @OP<|jp @acK<|jp @acL<|jp @acM<|jp @acN<|jp @acO<|jp @acP<|jp @acQ<|jp @acR<|jp @acS<|jp @acT<|jp @acU<|jp @acV<|jp @acW<|jp @acX<|jp @acY<|jp @acZ<|jp @ac0<|jp @ac1<|jp @ac2<|jp @ac3<|jp @ac4<|jp @ac5<|jp @ac6<|jp @ac7<|jp @ac8<|jp @ac9<|jp @ada<|jp @adb<|jp @ade<|jp @adf<|jp @adg<|jp @adh<|jp @adi<|jp @adj<|jp @adk<|jp @adl<|jp @adm<|jp @adn<|jp @ado<|jp @adp<|jp @adq<|jp @ads<|jp @adt<|jp @adu<|jp @adv<|jp @adw<|jp @adx<|jp @ady<|jp @adz<|jp @adA<|jp @adB<|jp @adC<|jp @TX<|jp @TY<|jp @TZ<|jp @T4<|jp @T5<|jp @T6<|jp @EX<|jp @adD<|jp @aiH<|jp @aiI<|jp @aiJ<|jp @aiK<|jp @aiL<|jp @aiM<|jp @aiN<|jp @aiO<|jp @aiP<|jp @adE<|jp @adF<|@Sd
noncomputable def cQ (t0 t1:Str)(p0 p1:List Str):Tr:=.ls [.tp [.str t0,.ls (p0.map .str)],.tp [.str t1,.ls (p1.map .str)]]
structure U where
 o:Int
 v:Int
 s:Int
 w:Int
 n:Int
 d:Int
 i:Int
 f:Int
noncomputable def U.t (u:U):Tr:=.tp [.int u.o,.int u.v,.int u.s,.int u.w,.int u.n,.int u.d,.int u.i,.int u.f]
structure I where
 bW:Int
 oH:Str
 vZ:Str
 vK:Str
 XQ:Str
 C9:Int
 wk:Int
 ov:Int
 ba:Int
 en:Str
 outs:List Str
 gO:List (Str×Int)
structure M where
 ru:U
 t0:Str
 t1:Str
 p0:List Str
 p1:List Str
 kn:List Str
 pl:List I
 XR:Bool
 clo:Bool
 fH:List Tr
structure L3 where
 i:Nat
 o:Nat
 s:Nat
structure Ly where
 a:Nat
 k:Nat
 p:Nat
 l:Nat
 cs:List L3
noncomputable def jt (x:I)(c:L3):List (Str×Tr):=[("side",.int x.bW),("facing",.str x.oH),("other",.str x.vZ),("bowler",.str x.vK),("ahead",.str x.XQ),("total",.int x.C9),("wickets",.int x.wk),("overs",.int x.ov),("balls",.int x.ba),("ending",.str x.en),("outs",.hd c.o),("spells",.hd c.s)]
noncomputable def iC (l:List Str):List (dz×Tr):=l.map λk=>(.inr k,.bl true)
noncomputable def sj (l:List (Str×Int)):List (dz×Tr):=l.map λp=>(.inr p.1,.int p.2)
structure g_ (S:Cs) (x:I) (c:L3):Prop where
 i:S[c.i]? = some (.fE "Innings" (jt x c))
 o:S[c.o]? = some (.gQ (iC x.outs))
 s:S[c.s]? = some (.gQ (sj x.gO))
structure Dj (c:L3):Prop where
 io:c.i≠c.o
 is:c.i≠c.s
 os:c.o≠c.s
noncomputable def j_ (S:Cs)(x:I)(c:L3):Cs:=((S.set c.i (.fE "Innings" (jt x c))).set c.o (.gQ (iC x.outs))).set c.s (.gQ (sj x.gO))
theorem bB {S:Cs}{n:Nat}{c:Ce}(h:S[n]? = some c):n<S.length:=(zae.mp h).1
theorem cN {S:Cs}{n:Nat}{c:Ce}(h:n<S.length):(S.set n c)[n]? = some c:=zaH h
theorem dc {S:Cs}{n k:Nat}{c:Ce}(h:¬ n=k):(S.set n c)[k]? = S[k]?:= zaA h
theorem fB {S:Cs}{n:Nat}{c d:Ce}:(S.set n c).set n d=S.set n d:=zea ..
theorem k8 {S:Cs}{x y:I}{c:L3}(h:g_ S x c)(d:Dj c):g_ (j_ S y c) y c where
 i:=by
  unfold j_;rw[dc d.is.symm,dc d.io.symm,cN (bB h.i)]
 o:=by
  unfold j_;rw[dc d.os.symm,cN (by rw[zdk];exact bB h.o)]
 s:=by
  unfold j_;rw[cN (by rw[zdk,zdk];exact bB h.s)]
theorem nE {S:Cs}{x y:I}{c:L3}(d:Dj c):j_ (j_ S x c) y c=j_ S y c:=by
 unfold j_;rw[zcY (i:=c.s) (j:=c.i) _ _ d.is.symm,zcY (i:=c.o) (j:=c.i) _ _ d.io.symm,fB,zcY (i:=c.s) (j:=c.o) _ _ d.os.symm,fB,fB]
theorem lI {S:Cs}{x y:I}{c:L3}(h:g_ S x c)(d:Dj c)(ho:y.outs=x.outs)(hs:y.gO=x.gO):S.set c.i (.fE "Innings" (jt y c))=j_ S y c:=by
 unfold j_;rw[ho,hs,ji (i:=c.o) (by rw[dc d.io];exact h.o),ji (i:=c.s) (by rw[dc d.is];exact h.s)]
theorem f_ {x:Str}{l:List Str}:Km (.str x) (l.map .str)=decide (x∈l):=by
 rw[zaK];simp only[Km,zcS,zdc,Function.comp,P6,beq_iff_eq,decide_eq_true_eq];exact⟨λ⟨y,h,e⟩=>e ▸ h,λh=>⟨x,h,rfl⟩⟩
theorem P_:Km (.str x) [.str a,.str b]=decide (x=a\/x=b):=by
 rw[zaK];simp only[Km,zcs,zeW,P6,zeJ,zei,decide_eq_true_eq,beq_iff_eq];exact⟨λh=>h.imp zcW zcW,λh=>h.imp zcW zcW⟩
theorem in3:Km (.str x) [.str a,.str b,.str c]=decide (x=a\/x=b\/x=c):=by
 rw[zaK];simp only[Km,zcs,zeW,P6,zeJ,zei,decide_eq_true_eq,beq_iff_eq];exact⟨λh=>h.imp zcW (·.imp zcW zcW),λh=>h.imp zcW (·.imp zcW zcW)⟩
theorem bQ:dQ (.str s)=true:=rfl
theorem gb {l:List Str}:(l.map Tr.str).all dQ=true:=by
 rw[zaM];intro x hx;obtain⟨s,_,rfl⟩:=zcT.mp hx;rfl
theorem kg:∀{l:List Str},(aP (.inr k) (iC l)).isSome=decide (k∈l)
 |[]=>rfl
 |a::r=>by
  unfold iC;rw[zY];unfold aP;by_cases h:a=k
  ·subst h;rw[if_pos rfl];simp
  ·rw[if_neg (λz=>h (zdx z))]
   have:=kg (k:=k) (l:=r)
   unfold iC at this;rw[this];simp[zap,zbj h]
noncomputable def I.dg (x:I)(n:Str):Bool:=decide (n=x.oH\/n=x.vZ)
noncomputable def I.Qa (x:I):Bool:=x.dg ""
noncomputable def I.left (x:I)(ps:List Str):Bool:=ps.any λn=>!decide (n∈x.outs) && !x.dg n
noncomputable def I.swap (x:I):I:={x with oH:=x.vZ,vZ:=x.oH}
noncomputable def I.gG (x:I)(n:Str):I:=if x.oH=n then { x with oH:= "" } else { x with vZ:= "" }
noncomputable def I.CH (x:I)(n:Str):I:=if x.oH="" then {x with oH:=n} else {x with vZ:=n}
section
variable {S:Cs}{x:I}{c:L3}
theorem kh (h:g_ S x c)(n:Str):pP [.hd c.i,.str n] S = .ok (.bl (x.dg n)) S:=by
 unfold pP I.dg;have hi:=h.i;unfold jt at hi;simp?[fx,hi,zaG,zbt,bQ,zbi,P_]
theorem OQ (h:g_ S x c):Jt [.hd c.i] S = .ok (.bl x.Qa) S:=by
 unfold Jt I.Qa;have e:=kh h ""
 have hi:=h.i;unfold jt at hi;simp?[fx,hi,e]
theorem EY (h:g_ S x c)(d:Dj c):Ju [.hd c.i] S = .ok .bw (j_ S x.swap c):=by
 unfold Ju;rw[<-lI (y:=x.swap) h d rfl rfl];have hl:=bB h.i;have hi:=h.i;unfold jt at *
 simp?[fx,hi,hl,cN,fB,I.swap]
theorem Ht (h:g_ S x c)(d:Dj c)(n:Str):Ol [.hd c.i,.str n] S = .ok .bw (j_ S (x.gG n) c):=by
 unfold Ol I.gG;have hl:=bB h.i;have hi:=h.i;by_cases hn:x.oH=n
 ·rw[if_pos hn,<-lI (x:=x) (y:={ x with oH:= "" }) h d rfl rfl]
  unfold jt at *
  simp?[fx,hi,hl,cN,fB,hn]
 ·rw[if_neg hn,<-lI (x:=x) (y:={ x with vZ:= "" }) h d rfl rfl]
  unfold jt at *
  simp?[fx,hi,hl,cN,fB,hn]
theorem adG (h:g_ S x c)(d:Dj c)(n:Str):TM [.hd c.i,.str n] S = .ok .bw (j_ S (x.CH n) c):=by
 unfold TM I.CH;have hl:=bB h.i;have hi:=h.i;by_cases hn:x.oH=""
 ·rw[if_pos hn,<-lI (x:=x) (y:={x with oH:=n}) h d rfl rfl]
  unfold jt at *
  simp?[fx,hi,hl,cN,fB,hn]
 ·rw[if_neg hn,<-lI (x:=x) (y:={x with vZ:=n}) h d rfl rfl]
  unfold jt at *
  simp?[fx,hi,hl,cN,fB,hn]
end
structure B where
 k:Str
 r:Int
 rp:Bool
 w:Str
 Az:Str
 en:Str
noncomputable def B.t (b:B):Tr:=.tp [.str "ball",.str b.k,.int b.r,.bl b.rp,.str b.w,.str b.Az,.str b.en]
noncomputable def dm:Option Str->Tr|none=>.bw|some s=>.str s
noncomputable def Hu (k:Str)(r:Int):Bool:=if r=4 then true else if r=6 then decide (k="bat" \/ k="no") else false
noncomputable def OR (k:Str)(r:Int)(rp:Bool)(w:Str):Bool:=if w="" then true else if rp=true then false else if w="run" then true else if r≠0 then false else if w="stumped" \/ w="hit" then decide (k="bat" \/ k="wide") else decide (k="bat")
noncomputable def B.yD (b:B):Option Str:=if (b.rp && !Hu b.k b.r)=true then some "rope" else if OR b.k b.r b.rp b.w=true then none else some "way"
theorem adH (k:Str)(r:Int)(S:Cs):GW [.str k,.int r] S = .ok (.bl (Hu k r)) S:=by
 unfold GW Hu;simp?[zaG,zbt,bQ,zbi,P_]
theorem aiQ (k:Str)(r:Int)(rp:Bool)(w:Str)(S:Cs):GX [.str k,.int r,.bl rp,.str w] S = .ok (.bl (OR k r rp w)) S:=by
 unfold GX OR;by_cases h1:w=""
 ·simp?[h1]
 ·cases rp with
  |true=>simp?[h1]
  |false =>
   by_cases h2:w="run"
   ·simp?[fx,h2]
   ·by_cases h3:r=0
    ·by_cases h4:w="stumped" \/ w="hit"
     ·simp?[fx,h1,h2,h3,h4,zaG,zbt,bQ,zbi,P_,ne_eq]
     ·simp?[fx,h1,h2,h3,h4,zaG,zbt,bQ,zbi,P_,ne_eq]
    ·simp?[fx,h1,h2,h3,ne_eq]
theorem T7 (b:B)(S:Cs):GY [b.t] S = .ok (dm b.yD) S:=by
 unfold GY B.t B.yD;have e1:=λS=>adH b.k b.r S
 have e2:=λS=>aiQ b.k b.r b.rp b.w S
 obtain⟨k,r,rp,w,Az,en⟩:=b;simp only at e1 e2 ⊢
 cases rp with
 |false =>
  cases h2:OR k r false w<;>simp?[e1,e2,h2,dm,zdv]
 |true =>
  cases h1:Hu k r
  ·simp?[e1,e2,h1,dm,zcF]
  ·cases h2:OR k r true w<;>simp?[e1,e2,h1,h2,dm,zcF]
structure By where
 EZ:Int
 ext:Int
 cha:Int
noncomputable def Hv (u:U)(k:Str)(r:Int):By:=if k="bat" then ⟨r,0,r⟩ else if k="wide" then ⟨0,u.w+r,u.w+r⟩ else if k="no" then ⟨r,u.n,u.n+r⟩ else if k="nobye" then ⟨0,u.n+r,u.n⟩ else ⟨0,r,0⟩
noncomputable def gH (k:Str):Bool:=decide (k="bat" \/ k="bye" \/ k="leg")
noncomputable def oJ (r:Int)(rp:Bool):Bool:=if r % 2=1 then !rp else false
noncomputable def XS (w:Str):Bool:=!decide (w="" \/ w="run")
noncomputable def B.nN (u:U)(b:B):Int:=(Hv u b.k b.r).EZ+(Hv u b.k b.r).ext
noncomputable def B.E3 (u:U)(b:B):Tr:=.tp [.int (b.nN u),.int (Hv u b.k b.r).EZ,.int (Hv u b.k b.r).ext,.int (Hv u b.k b.r).cha,.bl (gH b.k),.bl (!decide (b.k="wide")),.bl (oJ b.r b.rp),.bl (XS b.w)]
theorem amL (u:U)(k:Str)(r:Int)(S:Cs):G4 [u.t,.str k,.int r] S = .ok (.tp [.int (Hv u k r).EZ,.int (Hv u k r).ext,.int (Hv u k r).cha]) S:=by
 unfold G4 U.t Hv;by_cases h1:k="bat"
 ·simp?[fx,h1]
 ·by_cases h2:k="wide"
  ·simp?[fx,h2]
  ·by_cases h3:k="no"
   ·simp?[fx,h3]
   ·by_cases h4:k="nobye"
    ·simp?[fx,h4]
    ·simp?[fx,h1,h2,h3,h4]
theorem OS (u:U)(b:B)(S:Cs):Cz [u.t,b.t] S = .ok (b.E3 u) S:=by
 unfold Cz B.E3 B.nN B.t gH oJ XS;have e1:=λS=>amL u b.k b.r S
 unfold U.t at *
 simp?[e1,zaG,zbt,bQ,zbi,P_,in3]
noncomputable def I.vY (x:I)(b:B):Str:=if b.w="run" then b.Az else if b.w="" then "" else x.oH
section
variable {S:Cs}{x:I}{c:L3}
theorem T8 (h:g_ S x c)(b:B):Tz [.hd c.i,b.t] S = .ok (.str (x.vY b)) S:=by
 unfold Tz I.vY B.t;have hi:=h.i;unfold jt at hi;by_cases h1:b.w="run"
 ·simp?[fx,hi,h1]
 ·by_cases h2:b.w="" <;> simp?[fx,hi,h1,h2]
end
noncomputable def gJ (l:List Str)(n:Str):List Str:=if n∈l then l else l++[n]
noncomputable def jm (l:List (Str×Int))(n:Str):Int:=match l with|[]=>0 | (k,v)::r=>if k=n then v else jm r n
noncomputable def mU (l:List (Str×Int))(n:Str)(v:Int):List (Str×Int):=if (l.any λp=>decide (p.1=n))=true then l.map (λp=>if p.1=n then (p.1,v) else p) else l++[(n,v)]
theorem CI:jf (iC l) (.inr n) (.bl true)=iC (gJ l n):=by
 unfold jf gJ;have h1:((iC l).any λkv=>decide (kv.1=(.inr n:dz)))=decide (n∈l):=by
  unfold iC;rw[zcS,zaK,zdc];simp only[Function.comp,decide_eq_true_eq];exact⟨λ⟨x,h,e⟩=>zdx e ▸ h,λh=>⟨n,h,rfl⟩⟩
 rw[h1];by_cases h:n∈l
 ·rw[if_pos (decide_eq_true h),if_pos h]
  unfold iC;rw[zbz];apply zcJ
  intro x hx;simp only[Function.comp];split<;>rfl
 ·rw[if_neg (by simpa using h),if_neg h]
  unfold iC;rw[zaF];rfl
theorem sr:∀{l:List (Str×Int)},(aP (.inr n) (sj l)).getD (.int 0) = .int (jm l n)
 |[]=>rfl
 | (k,v)::r=>by
  unfold sj;rw[zY];unfold aP jm;by_cases h:k=n
  ·subst h;rw[if_pos rfl,if_pos rfl];rfl
  ·rw[if_neg (λz=>h (zdx z)),if_neg h]
   exact sr (n:=n) (l:=r)
theorem Hw:jf (sj l) (.inr n) (.int v)=sj (mU l n v):=by
 unfold jf mU;have h1:((sj l).any λkv=>decide (kv.1=(.inr n:dz)))=l.any λp=>decide (p.1=n):=by
  unfold sj;rw[zcS];congr 1
  funext p
  simp only[Function.comp,Sum.inr.injEq]
 rw[h1];split
 ·unfold sj
  rw[zbz,zbz];apply zcJ
  intro x hx;simp only[Function.comp,Sum.inr.injEq];split<;>rfl
 ·unfold sj
  rw[zaF];rfl
theorem OT:(iC l).length=l.length:=by unfold iC;simp
theorem T9:(sj l).length=l.length:=by unfold sj;simp
noncomputable def I.yE (x:I)(n:Str):I:={x with vK:=n,gO:=mU x.gO n (jm x.gO n+1)}
noncomputable def I.wR (x:I)(n e:Str):I:=
 let y:=({x with outs:=gJ x.outs n,wk:=x.wk+1}:I).gG n
 if (if y.oH="" then "strike" else "other")=e then y else y.swap
noncomputable def I.wU (x:I)(o:Int):I:=if o<=x.ba+1 then { x with ov:=x.ov+1,ba:=0,oH:=x.vZ,vZ:=x.oH,XQ:=x.vK,vK:= "" } else {x with ba:=x.ba+1}
noncomputable def I.pQ (u:U)(x:I)(b:B):I:=
 let x1:I:={x with C9:=x.C9+b.nN u}
 let x2:=if oJ b.r b.rp=true then x1.swap else x1
 let x3:=if x.vY b="" then x2 else x2.wR (x.vY b) (if b.w="run" then b.en else "strike")
 if gH b.k=true then x3.wU u.o else x3
section
variable {S:Cs}{x:I}{c:L3}
theorem T_ (h:g_ S x c)(d:Dj c)(n:Str)(hl:x.gO.length<=1000):TN [.hd c.i,.str n] S = .ok .bw (j_ S (x.yE n) c):=by
 unfold TN;have hi:=h.i;have hs:=h.s;have U5:=bB h.i;have hz:(x.gO.length<sizeLine)=True:=kR (by omega)
 have e:((S.set c.i (.fE "Innings" (jt {x with vK:=n} c))).set c.s (.gQ (sj (mU x.gO n (jm x.gO n+1)))))=j_ S (x.yE n) c:=by
  unfold j_ I.yE;rw[ji (i:=c.o) (l:=S.set c.i _) (by rw[dc d.io];exact h.o)]
  rfl
 unfold jt at hi e;simp only[↓bp,bx,simprocAttr,fx,hi,hs,U5,cN,fB,dc d.is,d.is,d.is.symm,ne_eq,zbL,sr,Hw,T9,hz] at e ⊢
 rw[e]
theorem adI (h:g_ S x c)(d:Dj c)(n en:Str)(hl:x.outs.length<=1000):TH [.hd c.i,.str n,.str en] S = .ok .bw (j_ S (x.wR n en) c):=by
 unfold TH;have hi:=h.i;have ho:=h.o;have hol:=bB h.o;have hz:(x.outs.length<sizeLine)=True:=kR (by omega)
 generalize hy:({x with outs:=gJ x.outs n,wk:=x.wk+1}:I)=y
 have e:((S.set c.o (.gQ (iC (gJ x.outs n)))).set c.i (.fE "Innings" (jt {x with wk:=x.wk+1} c)))=j_ S y c:=by
  rw[<-hy];unfold j_;rw[zcY _ _ d.io,ji (i:=c.s) (by rw[dc d.is,dc d.os];exact h.s)]
  rfl
 have hY:=k8 (y:=y) h d
 have e1:=Ht hY d n;rw[nE d] at e1;have hZ:=k8 (y:=y.gG n) h d
 have hzi:=hZ.i;have e2:=EY hZ d;rw[nE d] at e2;have OU:=hY.i;have ef:x.wR n en=if (if (y.gG n).oH="" then "strike" else "other")=en then y.gG n else (y.gG n).swap:=by unfold I.wR;rw[hy]
 rw[ef];generalize y.gG n=z at *
 unfold jt at hi e hzi OU;simp only[↓bp,bx,simprocAttr,fx,hi,ho,hol,cN,fB,dc d.io.symm,d.io,d.io.symm,ne_eq,CI,OT,hz] at e ⊢
 simp?[fx,e,e1,OU,hzi];by_cases hf:z.oH=""
 ·by_cases he:en="strike"
  ·subst he;simp?[fx,hf]
  ·have he':¬ "strike"=en:=λq=>he q.symm
   simp?[fx,hf,he',hzi,e2]
 ·by_cases he:en="other"
  ·subst he;simp?[fx,hf]
  ·have he':¬ "other"=en:=λq=>he q.symm
   simp?[fx,hf,he',hzi,e2]
theorem adJ (h:g_ S x c)(d:Dj c)(o:Int):TL [.hd c.i,.int o] S = .ok .bw (j_ S (x.wU o) c):=by
 unfold TL I.wU;have hi:=h.i;have U5:=bB h.i;by_cases ho:o<=x.ba+1
 ·rw[if_pos ho]
  generalize hy:({x with ov:=x.ov+1,ba:=0}:I)=y
  have e:=lI (y:=y) h d (by rw[<-hy]) (by rw[<-hy])
  have hY:=k8 (y:=y) h d
  have e1:=EY hY d;rw[nE d] at e1;have OU:=hY.i;have hZ:=k8 (y:=y.swap) h d
  have hZi:=hZ.i;have hZl:=bB hZ.i;have e2:=lI (y:={ y.swap with XQ:=y.vK,vK:= "" }) hZ d rfl rfl
  rw[nE d] at e2;subst hy;unfold jt at hi e OU hZi e2;simp only[I.swap] at e1 hZi hZl e2 ⊢
  have rC:¬ x.ba+1<o:=by omega
  simp?[fx,hi,U5,cN,fB,ho,ge_iff_le,e,e1,OU,hZi,hZl,e2]
 ·rw[if_neg ho]
  have e:=lI (y:={x with ba:=x.ba+1}) h d rfl rfl
  have OU:=(k8 (y:={x with ba:=x.ba+1}) h d).i
  unfold jt at hi e OU;simp?[fx,hi,U5,cN,fB,ho,ge_iff_le,e,OU]
theorem adL (h:g_ S x c)(d:Dj c)(u:U)(b:B)(hl:x.outs.length<=1000):G5 [.hd c.i,u.t,b.t] S = .ok (.str (x.vY b)) (j_ S (x.pQ u b) c):=by
 have e1:=OS u b S;have e2:=T8 h b;have hi:=h.i;have e3:=lI (y:=({x with C9:=x.C9+b.nN u}:I)) h d rfl rfl
 obtain⟨y,hy⟩:∃y:I,y = {x with C9:=x.C9+b.nN u}:=⟨_,rfl⟩
 obtain⟨z,hz⟩:∃z,z=if oJ b.r b.rp=true then y.swap else y:=⟨_,rfl⟩
 obtain⟨w,hw⟩:∃w,w=if x.vY b="" then z else z.wR (x.vY b) (if b.w="run" then b.en else "strike"):=⟨_,rfl⟩
 have hp:x.pQ u b=if gH b.k=true then w.wU u.o else w:=by
  unfold I.pQ;simp only[hw,hz,hy]
 have hzo:z.outs=x.outs:=by rw[hz,hy];split<;>rfl
 have hY:=k8 (y:=y) h d
 have hZ:=k8 (y:=z) h d
 have hW:=k8 (y:=w) h d
 have e4:=EY hY d;have e5:=λn en=>adI hZ d n en (by rw[hzo];exact hl)
 have e6:=adJ hW d u.o;rw[nE d] at e4 e6;simp only[nE d] at e5;have OU:=hY.i;have hZi:=hZ.i;have hWi:=hW.i;have g0:∀S,aZ (b.E3 u) (.int 0) S = .ok (.int (b.nN u)) S:=λ_=>rfl
 have g6:∀S,aZ (b.E3 u) (.int 6) S = .ok (.bl (oJ b.r b.rp)) S:=λ_=>rfl
 have g4:∀S,aZ (b.E3 u) (.int 4) S = .ok (.bl (gH b.k)) S:=λ_=>rfl
 have gu:∀S,aZ u.t (.int 0) S = .ok (.int u.o) S:=λ_=>rfl
 have gw:∀S,aZ b.t (.int 4) S = .ok (.str b.w) S:=λ_=>rfl
 have ge:∀S,aZ b.t (.int 6) S = .ok (.str b.en) S:=λ_=>rfl
 rw[hp];unfold jt at hi e3 OU hZi hWi;dsimp only at e3
 rw[<-hy] at e3;clear hp hzo hY hZ hW hy hl
 unfold G5;generalize x.vY b=o at *
 generalize b.E3 u=sT at *
 generalize u.t=uT at *
 generalize b.t=bT at *
 generalize b.nN u=gt at *
 generalize hI1:cF (mB (ai aZ (aa 3) (mC (.int 6)))) _ _=I1
 generalize hI2:cF (mB (ai (cE true) (aa 4) (mC (.str "")))) _ _=I2
 generalize hI3:cF (mB (ai aZ (aa 3) (mC (.int 4)))) _ _=I3
 have k1:I1 [some (.hd c.i),some uT,some bT,some sT,some (.str o)] (j_ S y c) = .nx [some (.hd c.i),some uT,some bT,some sT,some (.str o)] (j_ S z c):=by
  rw[<-hI1,hz];cases hcr:oJ b.r b.rp<;>rw[hcr] at g6<;>simp?[fx,↓g6,OU,e4]
 have k2:I2 [some (.hd c.i),some uT,some bT,some sT,some (.str o)] (j_ S z c) = .nx [some (.hd c.i),some uT,some bT,some sT,some (.str o)] (j_ S w c):=by
  rw[<-hI2,hw];by_cases ho:o=""
  ·simp?[fx,ho]
  ·by_cases hr:b.w="run"
   ·rw[hr] at gw
    simp?[fx,ho,hr,↓gw,↓ge,hZi,e5]
   ·simp?[fx,ho,hr,↓gw,hZi,e5]
 have k3:I3 [some (.hd c.i),some uT,some bT,some sT,some (.str o)] (j_ S w c) = .nx [some (.hd c.i),some uT,some bT,some sT,some (.str o)] (j_ S (if gH b.k=true then w.wU u.o else w) c):=by
  rw[<-hI3];cases hf:gH b.k<;>rw[hf] at g4<;>simp?[fx,↓g4,↓gu,hWi,e6]
 generalize j_ S (if gH b.k=true then w.wU u.o else w) c=SF at *
 simp?[fx,e1,e2,hi,↓g0,e3,k1,k2,k3]
end
inductive gW where
 |cV (t f o b:Str)|lR (b:B)|rS (n:Str)|pR (n:Str)|pS (n:Str)|swap (a b:Str)|fO|h_|lJ
noncomputable def gW.t:gW->Tr
 |.cV t f o b=>.tp [.str "start",.str t,.str f,.str o,.str b]
 |.lR b=>b.t
 |.rS n=>.tp [.str "in",.str n]
 |.pR n=>.tp [.str "bowl",.str n]
 |.pS n=>.tp [.str "hurt",.str n]
 |.swap a b=>.tp [.str "swap",.str a,.str b]
 |.fO=>.tp [.str "declare"]
 |.h_=>.tp [.str "follow"]
 |.lJ=>.tp [.str "close"]
noncomputable def nR (l:List Str):Tr:=.ls (l.map .str)
noncomputable def I.iZ (x:I)(b:B):Option Str:=if x.Qa=true then some "empty" else if x.vK="" then some "bowler" else match b.yD with|some f=>some f|none=>if b.w="run" /\ x.dg b.Az=false then some "who" else none
noncomputable def I.CJ (x:I)(EZ:List Str)(n:Str):Option Str:=if x.Qa=false then some "full" else if n∉EZ then some "team" else if n∈x.outs then some "out" else if x.dg n=true then some "there" else none
noncomputable def I.pT (x:I)(OV:List Str)(sp:Int)(n:Str):Option Str:=if x.vK ≠ "" then some "bowling" else if n∉OV then some "team" else if n=x.XQ then some "twice" else if 0<sp/\sp<=jm x.gO n then some "spell" else none
noncomputable def I.mV (x:I)(u:U)(EZ OV:List Str):gW->Option Str
 |.lR b=>x.iZ b
 |.rS n=>x.CJ EZ n
 |.pR n=>x.pT OV u.s n
 |.pS n=>if x.dg n=true then none else some "who"
 |_=>none
theorem CK {α:Type}(f:α -> Bool):∀l:List α,qS (l.map λa=>.bl (f a))=some (l.map f)
 |[]=>rfl
 |a::r=>by rw[zY];unfold qS;rw[CK f r];rfl
theorem mW {α:Type}(f:α -> Int):∀l:List α,pq (l.map λa=>.int (f a))=some (l.map f)
 |[]=>rfl
 |a::r=>by rw[zY];unfold pq;rw[mW f r];rfl
section
variable {S:Cs}{x:I}{c:L3}
theorem Jv (h:g_ S x c)(b:B):GZ [.hd c.i,b.t] S = .ok (dm (x.iZ b)) S:=by
 unfold GZ I.iZ;have e1:=OQ h;have e2:=T7 b S;have e3:=λn=>kh h n
 have hi:=h.i;unfold jt at hi;cases hg:x.Qa
 ·by_cases hb:x.vK=""
  ·simp?[fx,hi,e1,hg,hb,dm]
  ·cases hf:b.yD with
   |some f=>unfold B.t at *;simp?[fx,hi,e1,hg,hb,e2,hf,dm]
   |none =>
    by_cases hr:b.w="run"
    ·unfold B.t at *
     rw[hr] at e2;cases hs:x.dg b.Az<;>simp?[fx,hi,e1,hg,hb,e2,hf,dm,hr,e3,hs]
    ·unfold B.t at *;simp?[fx,hi,e1,hg,hb,e2,hf,dm,hr]
 ·simp?[fx,hi,e1,hg,dm]
theorem Ua (h:g_ S x c)(EZ:List Str)(n:Str):G0 [.hd c.i,nR EZ,.str n] S = .ok (dm (x.CJ EZ n)) S:=by
 unfold G0 I.CJ nR;have e1:=OQ h;have e3:=λn=>kh h n
 have hi:=h.i;have ho:=h.o;unfold jt at hi;cases hg:x.Qa
 ·simp?[fx,hi,e1,hg,dm]
 ·by_cases hb:n∈EZ
  ·by_cases hn:n∈x.outs
   ·simp?[fx,hi,ho,e1,hg,hb,hn,gb,bQ,f_,kg,dm]
   ·cases hs:x.dg n<;>simp?[fx,hi,ho,e1,e3,hg,hb,hn,hs,gb,bQ,f_,kg,dm]
  ·simp?[fx,hi,e1,hg,hb,gb,bQ,f_,dm]
theorem Jw (h:g_ S x c)(OV:List Str)(sp:Int)(n:Str):G1 [.hd c.i,nR OV,.int sp,.str n] S = .ok (dm (x.pT OV sp n)) S:=by
 unfold G1 I.pT nR;have hi:=h.i;have hs:=h.s;unfold jt at hi;by_cases hw:x.vK=""
 ·by_cases hb:n∈OV
  ·by_cases ha:n=x.XQ
   ·subst ha;simp?[fx,hi,hw,hb,gb,bQ,f_,dm,ne_eq]
   ·by_cases h0:0<sp
    ·by_cases h1:sp<=jm x.gO n<;>simp?[fx,hi,hs,hw,hb,ha,h0,h1,gb,bQ,f_,sr,dm,ne_eq]
    ·simp?[fx,hi,hs,hw,hb,ha,h0,gb,bQ,f_,sr,dm,ne_eq]
  ·simp?[fx,hi,hw,hb,gb,bQ,f_,dm,ne_eq]
 ·simp?[fx,hi,hw,dm,ne_eq]
noncomputable def gW.yF:gW->Bool|.lR _=>true|.rS _=>true|.pR _=>true|.pS _=>true|.fO=>true|_=>false
theorem OW (h:g_ S x c)(u:U)(EZ OV:List Str)(e:gW)(he:e.yF=true):G2 [.hd c.i,u.t,nR EZ,nR OV,e.t] S = .ok (dm (x.mV u EZ OV e)) S:=by
 unfold G2;have e1:=λb=>Jv h b
 have e2:=λn=>Ua h EZ n
 have e3:=λsp n=>Jw h OV sp n
 have e4:=λn=>kh h n
 have hi:=h.i;unfold jt at hi;cases e with
 |lR b =>
  have e1:=e1 b;unfold gW.t I.mV;generalize dm (x.iZ b)=z at *
  unfold B.t at *
  simp?[fx,e1]
 |rS n =>
  have e2:=e2 n;unfold gW.t I.mV;simp?[fx,e2]
 |pR n =>
  have e3:=λsp=>e3 sp n
  unfold gW.t I.mV U.t;simp?[fx,e3]
 |pS n =>
  have e4:=e4 n;unfold gW.t I.mV;cases hs:x.dg n<;>simp?[fx,hi,e4,hs,dm]
 |fO=>unfold gW.t I.mV;simp?[fx,dm]
 |cV _ _ _ _=>cases he
 |swap _ _=>cases he
 |h_=>cases he
 |lJ=>cases he
theorem adM (h:g_ S x c)(ps:List Str)(hl:ps.length<=1000):TQ [.hd c.i,nR ps] S = .ok (.bl (x.left ps)) S:=by
 unfold TQ nR;have e3:=λn=>kh h n
 have hi:=h.i;have ho:=h.o;unfold jt at hi;have hz:(ps.length<=sizeLine)=True:=bJ (by omega)
 simp only[Bq,gE,aE,bA,af,fu,tZ,aa,aj,iL,vW,R.dX,R.fN,jM,zY,zaI,zbP,zaX,zav,zbe,Nat.reduceAdd,Nat.reduceSub,zcp,zay,zaW,zaE,Option.join,zcm,id_eq,zaw];rw[qz [] (λτ=>∃v,τ=[some (.hd c.i),v]) (λt=>match t with|.str n=>.bl (!decide (n∈x.outs) && !x.dg n)|_=>.bw) (λ_=>true) (ps.map .str) _ [] ⟨_,rfl⟩ ?_ (by simp;omega)]
 ·have e:((ps.map Tr.str).filter (λ_=>true)).map (λt=>match t with|.str n=>(.bl (!decide (n∈x.outs) && !x.dg n):Tr)|_=>.bw)=ps.map λn=>.bl (!decide (n∈x.outs) && !x.dg n):=by
   rw[zdu.mpr (λ_ _=>rfl),zbz];rfl
  rw[zaX,e];simp only[R.dX,RH,D0,CK,R.fN,t7,zaf,hz,ite_true];unfold I.left;rw[zcS];rfl
 ·rintro t ht τ ⟨v,rfl⟩
  obtain⟨n,hn,rfl⟩:=zcT.mp ht;refine⟨[some (.hd c.i),some (.str n)],⟨_,rfl⟩,rfl,rfl,λ_=>?_⟩
  by_cases hno:n∈x.outs
  ·simp?[fx,hi,ho,kg,hno,zdv]
  ·cases hs:x.dg n<;>simp?[fx,hi,ho,kg,hno,e3,hs,zcF]
end
noncomputable def k9 (c:L3):List Nat:=[c.i,c.o,c.s]
noncomputable def fp (y:Ly):List Nat:=y.a::y.k::y.p::y.l::y.cs.flatMap k9
noncomputable def mF (m:M)(y:Ly):List (Str×Tr):=[("rules",m.ru.t),("sides",cQ m.t0 m.t1 m.p0 m.p1),("known",.hd y.k),("played",.hd y.p),("followed",.bl m.XR),("closed",.bl m.clo),("balls_told",.hd y.l)]
structure eF (S:Cs) (m:M) (y:Ly):Prop where
 a:S[y.a]? = some (.fE "Match" (mF m y))
 k:S[y.k]? = some (.aV (m.kn.map .str))
 p:S[y.p]? = some (.aV (y.cs.map λc=>.hd c.i))
 l:S[y.l]? = some (.aV m.fH)
 len:y.cs.length=m.pl.length
 rS:∀(j:Nat) x c,m.pl[j]? = some x->y.cs[j]? = some c->g_ S x c
 nd:(fp y).Nodup
noncomputable def gR (m:M):Option I:=match m.pl.getLast? with|some x=>if x.en="" then some x else none|none=>none
noncomputable def Ub (m:M)(s:Int):Int:=((m.pl.filter λx=>decide (x.bW=s)).map (·.C9)).sum
noncomputable def vL (m:M)(s:Int):Int:=Ub m s - Ub m (1 - s)
noncomputable def fZ (m:M):Int:=match m.pl.getLast? with|some x=>x.bW|none=>0
noncomputable def rA (m:M):Bool:=if m.clo=true then true else if (gR m).isSome=true then false else if m.pl.length=3/\2 * m.ru.i=4 then decide (vL m (fZ m)<0) else decide (2 * m.ru.i<=m.pl.length)
theorem jn {m:M}{y:Ly}(hl:y.cs.length=m.pl.length):(m.pl=[]/\y.cs=[])\/∃fR x ci c,m.pl=fR++[x]/\y.cs=ci++[c]/\ci.length=fR.length:=by
 rcases zaV m.pl with h|⟨fR,x,h⟩
 ·exact .inl ⟨h,by rw[h] at hl;simpa using hl⟩
 ·rcases zaV y.cs with h2|⟨ci,c,h2⟩
  ·rw[h,h2] at hl;simp at hl
  ·refine .inr ⟨fR,x,ci,c,by simpa using h,by simpa using h2,?_⟩
   rw[h,h2] at hl;simpa using hl
theorem jo {α:Type}(l:List α)(a:α):iS (l++[a]) (-1)=some a:=by
 unfold iS CZ;rw[if_neg (by decide),zak,zbo]
 rw[if_pos (by omega)]
 simp only[zcm];rw[show ((-1:Int)+((l.length+1:Nat):Int)).toNat=l.length by omega]
 simp
theorem f6 {α:Type}(l:List α)(a:α):(l++[a])[l.length]? = some a:=by simp
section
variable {S:Cs}{m:M}{y:Ly}
theorem eF.qG (h:eF S m y)(e1:m.pl=fR++[x])(e2:y.cs=ci++[c])(e3:ci.length=fR.length):g_ S x c:=h.rS fR.length x c (by rw[e1,f6]) (by rw[e2,<-e3,f6])
theorem XT {α β:Type}{f:α -> List β}:∀{l:List α},(l.flatMap f).Nodup->∀c∈l,(f c).Nodup
 |[],_,c,h=>absurd h (by simp)
 |a::r,h,c,hc=>by
  rw[zdO] at h;have h':=zcC.mp h;rcases zap.mp hc with rfl|hc
  ·exact h'.1
  ·exact XT h'.2.1 c hc
theorem CM (h:(fp y).Nodup)(hc:c∈y.cs):Dj c/\c.i≠y.a/\c.i≠y.k/\c.i≠y.p/\c.i≠y.l/\c.o≠y.a/\c.o≠y.k/\c.o≠y.p/\c.o≠y.l/\c.s≠y.a/\c.s≠y.k/\c.s≠y.p/\c.s≠y.l:=by
 unfold fp at h;simp only[zbF,zap,zbu,not_or,not_exists,not_and] at h;obtain⟨⟨_,_,_,ha⟩,⟨_,_,hk⟩,⟨_,hp⟩,hl,hn⟩:=h
 have q:∀n∈k9 c,n≠y.a/\n≠y.k/\n≠y.p/\n≠y.l:=λn hn=>⟨λz=>ha c hc (z ▸ hn),λz=>hk c hc (z ▸ hn),λz=>hp c hc (z ▸ hn),λz=>hl c hc (z ▸ hn)⟩
 have d:(k9 c).Nodup:=by
  exact XT hn c hc
 unfold k9 at d q;simp only[zbF,zap,zaC,or_false,not_or] at d;obtain⟨a1,a2,a3,a4⟩:=q c.i (by simp)
 obtain⟨b1,b2,b3,b4⟩:=q c.o (by simp)
 obtain⟨c1,c2,c3,c4⟩:=q c.s (by simp)
 exact⟨⟨d.1.1,d.1.2,d.2.1⟩,a1,a2,a3,a4,b1,b2,b3,b4,c1,c2,c3,c4⟩
noncomputable def OX (m:M)(y:Ly):Tr:=match m.pl.getLast?,y.cs.getLast? with|some x,some c=>if x.en="" then .hd c.i else .bw|_,_=>.bw
theorem fP (h:eF S m y)(hs:m.pl.length<=1000):jl [.hd y.a] S = .ok (OX m y) S:=by
 unfold jl OX;have ha:=h.a;have hp:=h.p;have hz:(m.pl.length<=sizeLine)=True:=bJ (by omega)
 unfold mF at ha;rcases jn h.len with⟨e1,e2⟩|⟨fR,x,ci,c,e1,e2,e3⟩
 ·rw[e1,e2]
  rw[e2] at hp;simp?[fx,ha,hp,List.getLast?_nil]
 ·have hi:=(h.qG e1 e2 e3).i
  rw[e1,e2];rw[e2,zaF,zY,zaI] at hp;have hz:(ci.length+1<=sizeLine)=True:=bJ (by rw[e1] at hs;simp at hs;omega)
  unfold jt at hi;have hn:¬ ((ci.length:Int)+1=0):=by omega
  by_cases he:x.en="" <;> simp?[fx,ha,hp,hi,he,hz,jo,List.getLast?_append,List.getLast?_singleton,Option.some_or,zak,zaf,zbZ,zca,hn,Int.ofNat_one]
end
structure Sz (m:M) (n:Nat):Prop where
 pl:m.pl.length<=n
 kn:m.kn.length<=n
 fH:m.fH.length<=n
 p0:m.p0.length<=11
 p1:m.p1.length<=11
 outs:∀x∈m.pl,x.outs.length<=n
 gO:∀x∈m.pl,x.gO.length<=n
 bW:∀x∈m.pl,x.bW=0\/x.bW=1
noncomputable def lS (m:M)(s:Int):Str:=if s=0 then m.t0 else m.t1
noncomputable def iE (m:M)(s:Int):List Str:=if s=0 then m.p0 else m.p1
theorem jq {m:M}{s:Int}(h:s=0\/s=1):iS [Tr.tp [.str m.t0,.ls (m.p0.map .str)],Tr.tp [.str m.t1,.ls (m.p1.map .str)]] s=some (.tp [.str (lS m s),.ls ((iE m s).map .str)]):=by rcases h with rfl|rfl<;>rfl
theorem Hx {m:M}{s:Int}(h:s=0\/s=1):iS [Tr.tp [.str m.t0,.ls (m.p0.map .str)],Tr.tp [.str m.t1,.ls (m.p1.map .str)]] (1 - s)=some (.tp [.str (lS m (1 - s)),.ls ((iE m (1 - s)).map .str)]):=by rcases h with rfl|rfl<;>rfl
noncomputable def lK (m:M):Option Int:=if m.pl=[] then none else if (gR m).isSome=true then none else if rA m=true then none else if m.XR=true/\m.pl.length=2 then some (fZ m) else some (1 - fZ m)
noncomputable def lT:Option Int->Tr|none=>.bw|some i=>.int i
theorem adN:rL 0 2=[.int 0,.int 1]:=rfl
noncomputable def Ak (m:M)(t:Str):Option Int:=if m.t0=t/\(m.pl=[]\/lK m=some 0) then some 0 else if m.t1=t/\(m.pl=[]\/lK m=some 1) then some 1 else none
noncomputable def mX (m:M)(t f o b:Str):Option Str:=if (gR m).isSome=true then some "going" else match Ak m t with
 |none=>some "turn"
 |some s=>if f∉iE m s\/o∉iE m s\/b∉iE m (1 - s) then some "team" else if f=o then some "alike" else none
theorem su {m:M}{y:Ly}{fR:List I}{x:I}{ci:List L3}{c:L3}(e1:m.pl=fR++[x])(e2:y.cs=ci++[c]):OX m y=if x.en="" then .hd c.i else .bw:=by
 unfold OX;rw[e1,e2];simp
theorem pU {m:M}{fR:List I}{x:I}(e1:m.pl=fR++[x]):gR m=if x.en="" then some x else none:=by
 unfold gR;rw[e1];simp
theorem f7 {m:M}{y:Ly}(hl:y.cs.length=m.pl.length)(h:(gR m).isSome=false):OX m y = .bw:=by
 rcases jn hl with⟨e1,e2⟩|⟨fR,x,ci,c,e1,e2,e3⟩
 ·unfold OX;rw[e1,e2];rfl
 ·rw[su e1 e2]
  rw[pU e1] at h;split
  ·rename_i q;rw[if_pos q] at h;cases h
  ·rfl
theorem fK {m:M}{y:Ly}(hl:y.cs.length=m.pl.length)(h:(gR m).isSome=true):∃(fR:List I) (x:I) (ci:List L3) (c:L3),m.pl=fR++[x]/\y.cs=ci++[c]/\ci.length=fR.length/\x.en=("" : Str)/\OX m y = .hd c.i/\gR m=some x:=by
 rcases jn hl with⟨e1,e2⟩|⟨fR,x,ci,c,e1,e2,e3⟩
 ·unfold gR at h;rw[e1] at h;cases h
 ·have hx:x.en="" := by
   rw[pU e1] at h;by_cases q:x.en=""
   ·exact q
   ·rw[if_neg q] at h;cases h
  exact⟨fR,x,ci,c,e1,e2,e3,hx,by rw[su e1 e2,if_pos hx],by rw[pU e1,if_pos hx]⟩
section
variable {S:Cs}{m:M}{y:Ly}{n:Nat}
theorem E4 (h:eF S m y):vI [.hd y.a] S = .ok (.int (2 * m.ru.i)) S:=by
 unfold vI;have ha:=h.a;unfold mF U.t at ha;simp?[fx,ha]
theorem Uc (h:eF S m y)(s:Int)(hs:m.pl.length<=1000):Cu [.hd y.a,.int s] S = .ok (.int (Ub m s)) S:=by
 unfold Cu;refine pD (S1:=S) (t:=.int (Ub m s)) ?_ (zbr ..) (by unfold Bp;simp only[zG];rfl)
 have ha:=h.a;have hp:=h.p;unfold mF at ha;have hz:∀k:Nat,k<=1000->(k<=sizeLine)=True:=λk hk=>bJ (by omega)
 rw[<-Gp (l:=m.pl) (λc:L3=>Tr.hd c.i) h.len] at hp
 simp only[Bq,gE,aE,bA,af,fu,tZ,aa,aj,bD,IM,iO,iL,vW,cO,R.dX,R.fN,jM,zY,zaI,zbP,zaX,zav,zbe,Nat.reduceAdd,Nat.reduceSub,zcp,zay,zaW,zaE,Option.join,zcm,id_eq,zaw,ha,hp,fx,agO,if_true];rw[jh (by rw[hp]) (λτ=>∃v,τ=[some (.int s),v]) (λp:I×L3=>Tr.hd p.2.i) (λp=>.int p.1.C9) (λp=>decide (p.1.bW=s)) _ _ [] ⟨_,rfl⟩ ?_ (by
  rw[zbe,zcK,h.len];omega)]
 ·rw[zaX,Ei (λx:I=>decide (x.bW=s)) (λx=>Tr.int x.C9) h.len]
  simp only[R.dX,tU,vW,mW,R.fN,t7];rfl
 ·rintro⟨x,c⟩ hxc τ ⟨v,rfl⟩
  obtain⟨j,h1,h2⟩:=Mx hxc;have hi:=(h.rS j x c h1 h2).i
  unfold jt at hi;refine⟨[some (.int s),some (.hd c.i)],⟨_,rfl⟩,rfl,?_,λ_=>?_⟩<;>simp?[fx,hi]
theorem E5 (h:eF S m y)(s:Int)(hs:m.pl.length<=1000):yz [.hd y.a,.int s] S = .ok (.int (vL m s)) S:=by
 unfold yz vL;have e1:=λs=>Uc h s hs
 have ha:=h.a;unfold mF at ha;simp?[fx,ha,e1,dw]
theorem E6 (h:eF S m y)(z:Sz m n)(hn:n<=1000):Cv [.hd y.a] S = .ok (.bl (rA m)) S:=by
 unfold Cv rA;have hs:m.pl.length<=1000:=zai z.pl hn
 have e1:=fP h hs;have e2:=E4 h;have e3:=λs=>E5 h s hs
 have ha:=h.a;have hp:=h.p;have hz:(y.cs.length<=sizeLine)=True:=bJ (by rw[h.len];omega)
 unfold mF at ha;cases hc:m.clo
 ·cases hg:(gR m).isSome
  ·have eg:=f7 h.len hg
   by_cases h3:m.pl.length=3
   ·have h3':((y.cs.length:Int)=3)=True:=eq_true (by rw[h.len,h3];rfl)
    by_cases h4:2 * m.ru.i=4
    ·rcases jn h.len with⟨a1,_⟩|⟨fR,x,ci,c,a1,a2,a3⟩
     ·rw[a1] at h3;cases h3
     ·have hi:=(h.qG a1 a2 a3).i
      unfold jt at hi;have hl:fZ m=x.bW:=by unfold fZ;rw[a1];simp
      have h5:((ci.length:Int)+1=3)=True:=eq_true (by rw[a2,zak,zbo] at h3';have:=of_eq_true h3';omega)
      have Ii:(ci.length+1<=sizeLine)=True:=by rw[a2,zak,zbo] at hz;exact hz
      rw[a2,zaF,zY,zaI] at hp;simp?[fx,ha,hp,hi,hc,e1,eg,e2,e3,h4,h3,hl,Ii,h5,zak,zaf,jo,dw,zbZ,zca,Kh,Kg]
    ·have h4':¬ (2 * m.ru.i=4):=h4
     simp?[fx,ha,hp,hc,e1,eg,e2,h3,h4',hz,h3',zaf,dw,gGe,Kg];simp only[h.len,h3];rfl
   ·have h3':((y.cs.length:Int)=3)=False:=eq_false (by rw[h.len];omega)
    simp?[fx,ha,hp,hc,e1,eg,e2,h3,hz,h3',zaf,dw,gGe,Kg];simp only[h.len]
  ·obtain⟨fR,x,ci,c,a1,a2,a3,a4,a5,a6⟩:=fK h.len hg
   simp?[fx,ha,hc,e1,a5]
 ·simp?[fx,ha,hc]
theorem OY (h:eF S m y)(z:Sz m n)(hn:n<=1000):Cw [.hd y.a] S = .ok (lT (lK m)) S:=by
 unfold Cw lK;have hs:m.pl.length<=1000:=zai z.pl hn
 have e1:=fP h hs;have e2:=E6 h z hn;have ha:=h.a;have hp:=h.p;have hz:(y.cs.length<=sizeLine)=True:=bJ (by rw[h.len];omega)
 unfold mF at ha;rcases jn h.len with⟨a1,a2⟩|⟨fR,x,ci,c,a1,a2,a3⟩
 ·rw[a2] at hp
  simp?[fx,ha,hp,a1,lT]
 ·have qj:¬ m.pl=[]:=by rw[a1];simp
  have hi:=(h.qG a1 a2 a3).i
  unfold jt at hi;have hl:fZ m=x.bW:=by unfold fZ;rw[a1];simp
  have Ii:(ci.length+1<=sizeLine)=True:=by rw[a2,zak,zbo] at hz;exact hz
  have h0:¬ ((ci.length:Int)+1=0):=by omega
  rw[a2,zaF,zY,zaI] at hp;cases hg:(gR m).isSome
  ·have eg:=f7 h.len hg
   cases hd:rA m
   ·cases hf:m.XR
    ·simp?[fx,ha,hp,hi,qj,e1,eg,e2,hd,hf,hl,Ii,h0,zak,zaf,jo,dw,zbZ,zca,lT]
    ·by_cases h2:m.pl.length=2
     ·have h5:((ci.length:Int)+1=2)=True:=eq_true (by rw[a1,zak,zbo,<-a3] at h2;omega)
      simp?[fx,ha,hp,hi,qj,e1,eg,e2,hd,hf,hl,Ii,h0,h2,h5,zak,zaf,jo,dw,zbZ,zca,lT]
     ·have h5:((ci.length:Int)+1=2)=False:=eq_false (by rw[a1,zak,zbo,<-a3] at h2;omega)
      simp?[fx,ha,hp,hi,qj,e1,eg,e2,hd,hf,hl,Ii,h0,h2,h5,zak,zaf,jo,dw,zbZ,zca,lT]
   ·simp?[fx,ha,hp,qj,e1,eg,e2,hd,Ii,h0,zak,zaf,zbZ,zca,lT]
  ·obtain⟨fR,x,ci,c,b1,b2,b3,b4,b5,b6⟩:=fK h.len hg
   simp?[fx,ha,hp,qj,e1,b5,Ii,h0,zak,zaf,zbZ,zca,lT]
theorem XU (h:eF S m y)(z:Sz m n)(hn:n<=1000)(t:Str):Cy [.hd y.a,.str t] S = .ok (lT (Ak m t)) S:=by
 have e1:=OY h z hn;have ha:=h.a;have hp:=h.p;have hs:m.pl.length<=1000:=zai z.pl hn
 have hz:(y.cs.length<=sizeLine)=True:=bJ (by rw[h.len];omega)
 have h0:((y.cs.length:Int)=0)=(m.pl=[]):=by
  apply propext
  rw[h.len];constructor
  ·intro q;exact List.length_eq_zero_iff.mp (by omega)
  ·intro q;rw[q];rfl
 unfold Cy Ak;generalize hT:jG _ _=T
 have key:∀s:Int,s=0\/s=1->T [some (.hd y.a),some (.str t),some (.int s)] S = .ok (decide (lS m s=t/\(m.pl=[]\/lK m=some s))) S:=λs s01=>by
  have k5:=@jq m s s01
  unfold mF cQ at ha;subst hT;generalize lS m s=tt at *
  by_cases h1:tt=t
  ·by_cases h3:m.pl=[]
   ·simp?[fx,ha,hp,h0,h1,h3,hz,k5,zaf]
   ·cases hN:lK m with
    |none =>
     rw[hN] at e1;simp?[fx,ha,hp,h0,h1,h3,hz,k5,zaf,e1,lT]
    |some j =>
     rw[hN] at e1;simp?[fx,ha,hp,h0,h1,h3,hz,k5,zaf,e1,lT,zbL,eq_comm,false_or,true_and]
  ·simp?[fx,ha,h1,k5]
 have t0:lS m 0=m.t0:=rfl
 have t1:lS m 1=m.t1:=rfl
 have a0:=key 0 (.inl rfl)
 have a1:=key 1 (.inr rfl)
 rw[t0] at a0;rw[t1] at a1;clear key
 by_cases c0:m.t0=t/\(m.pl=[]\/lK m=some 0)
 ·rw[decide_eq_true c0] at a0
  rw[if_pos c0];simp?[adN,a0,lT]
 ·rw[decide_eq_false c0] at a0
  rw[if_neg c0];by_cases c1:m.t1=t/\(m.pl=[]\/lK m=some 1)
  ·rw[decide_eq_true c1] at a1
   rw[if_pos c1];simp?[adN,a0,a1,lT]
  ·rw[decide_eq_false c1] at a1
   rw[if_neg c1];simp?[adN,a0,a1,lT]
theorem XW (e:Ak m t=some s):s=0\/s=1:=by
 unfold Ak at e;split at e
 ·cases e;exact .inl rfl
 ·split at e
  ·cases e;exact .inr rfl
  ·cases e
theorem E7 (h:eF S m y)(z:Sz m n)(hn:n<=1000)(t f o b:Str):GQ [.hd y.a,(gW.cV t f o b).t] S = .ok (dm (mX m t f o b)) S:=by
 unfold GQ mX gW.t;have hs:m.pl.length<=1000:=zai z.pl hn
 have e1:=fP h hs;have e2:=XU h z hn t;have ha:=h.a;unfold mF cQ at ha;cases hg:(gR m).isSome
 ·have eg:=f7 h.len hg
  cases hs:Ak m t with
  |none=>rw[hs] at e2;simp?[fx,ha,e1,eg,e2,lT,dm]
  |some s =>
   rw[hs] at e2;have aiS:=XW hs;have k1:=@jq m s aiS
   have k2:=@Hx m s aiS
   by_cases h1:f∈iE m s<;>by_cases h2:o∈iE m s<;>by_cases h3:b∈iE m (1 - s)<;>by_cases h4:f=o <;>
    simp?[fx,ha,e1,eg,e2,lT,dm,k1,k2,dw,gb,bQ,f_,h1,h2,h3,h4]
 ·obtain⟨fR,x,ci,c,b1,b2,b3,b4,b5,b6⟩:=fK h.len hg
  simp?[fx,ha,e1,b5,dm]
noncomputable def dY (m:M)(e:gW):Option Str:=match gR m with
 |none=>some "none"
 |some x=>x.mV m.ru (iE m x.bW) (iE m (1 - x.bW)) e
theorem Ud (e:gW)(he:e.yF=true):∃w l,e.t = .tp (.str w::l)/\¬ w="start" /\ ¬ w="swap" /\ ¬ w="follow" /\ ¬ w="close" := by
 have h:∀w∈(["ball","in","bowl","hurt","declare"]:List Str),¬ w="start" /\ ¬ w="swap" /\ ¬ w="follow" /\ ¬ w="close" := by decide +kernel
 cases e<;>first | (cases he;done)|exact⟨_,_,rfl,h _ (by simp)⟩
theorem CN (h:eF S m y)(z:Sz m n)(hn:n<=1000)(e:gW)(he:e.yF=true):rm [.hd y.a,e.t] S = .ok (dm (if rA m=true then some "done" else dY m e)) S:=by
 unfold rm;have hs:m.pl.length<=1000:=zai z.pl hn
 have e1:=fP h hs;have e2:=E6 h z hn;have ha:=h.a;unfold mF cQ at ha;obtain⟨w,l,el,w1,w2,w3,w4⟩:=Ud e he;cases hd:rA m
 ·cases hg:(gR m).isSome
  ·have eg:=f7 h.len hg
   have Ay:dY m e=some ("none" : Str):=by
    unfold dY;cases hq:gR m with
    |none=>rfl
    |some x=>rw[hq] at hg;cases hg
   rw[el];simp?[fx,ha,e1,eg,e2,hd,Ay,dm,w1,w2,w3,w4]
  ·obtain⟨fR,x,ci,c,b1,b2,b3,b4,b5,b6⟩:=fK h.len hg
   have hI:=h.qG b1 b2 b3;have hi:=hI.i;unfold jt at hi;have Ue:=z.bW x (by rw[b1];simp)
   have k1:=@jq m x.bW Ue
   have k2:=@Hx m x.bW Ue
   have e3:=OW hI m.ru (iE m x.bW) (iE m (1 - x.bW)) e he
   have Ay:dY m e=x.mV m.ru (iE m x.bW) (iE m (1 - x.bW)) e:=by unfold dY;rw[b6]
   rw[<-Ay] at e3;unfold nR at e3;generalize dY m e=r at *
   rw[el] at e3 ⊢
   simp?[fx,ha,hi,e1,b5,e2,hd,k1,k2,dw,e3,w1,w2,w3,w4]
 ·simp?[fx,ha,e2,hd,dm]
end
noncomputable def bH (F:List Nat)(S S':Cs):Prop:=S.length<=S'.length/\∀j,j<S.length->j∉F->S'[j]? = S[j]?
theorem bH.refl:bH F S S:=⟨zah _,λ_ _ _=>rfl⟩
theorem bH.trans (a:bH F S1 S2)(b:bH F S2 S3):bH F S1 S3:=⟨zai a.1 b.1,λj h1 h2=>(b.2 j (zao h1 a.1) h2).trans (a.2 j h1 h2)⟩
theorem bH.mono (a:bH F S S')(h:∀j∈F,j∈F'):bH F' S S':=⟨a.1,λj h1 h2=>a.2 j h1 λz=>h2 (h j z)⟩
theorem bH.at (a:bH F S S')(h:S[j]? = some c)(hj:j∉F):S'[j]? = some c:=by rw[a.2 j (bB h) hj];exact h
theorem bH.set (h:n∈F):bH F S (S.set n c):=⟨by simp,λj _ h2=>dc λz=>h2 (z ▸ h)⟩
theorem bH.rJ:bH F S (S++r):=⟨by simp,λj h1 _=>zaj h1⟩
theorem bH.j_ (h:∀j∈k9 c,j∈F):bH F S (j_ S x c):=by
 unfold My.j_;exact ((bH.set (h _ (by simp[k9]))).trans (bH.set (h _ (by simp[k9])))).trans (bH.set (h _ (by simp[k9])))
theorem g_.only (a:bH F S S')(h:g_ S x c)(hF:∀j∈k9 c,j∉F):g_ S' x c:=⟨a.at h.i (hF _ (by simp[k9])),a.at h.o (hF _ (by simp[k9])),a.at h.s (hF _ (by simp[k9]))⟩
theorem eF.only (a:bH F S S')(h:eF S m y)(hF:∀j∈fp y,j∉F):eF S' m y where
 a:=a.at h.a (hF _ (by simp[fp]))
 k:=a.at h.k (hF _ (by simp[fp]))
 p:=a.at h.p (hF _ (by simp[fp]))
 l:=a.at h.l (hF _ (by simp[fp]))
 len:=h.len
 rS:=λj x c h1 h2=>(h.rS j x c h1 h2).only a λn hn=>hF n (by
  unfold fp;simp only[zap,zbu];exact .inr (.inr (.inr (.inr ⟨c,zaR h2,hn⟩))))
 nd:=h.nd
theorem Al {α β:Type}{f:α -> List β}:∀{l:List α} {j k:Nat} {a b:α},(l.flatMap f).Nodup->l[j]? = some a->l[k]? = some b->j≠k->∀n∈f a,n∉f b
 |[],j,k,a,b,_,h,_,_,_,_=>by simp at h
 |x::r,j,k,a,b,nd,h1,h2,ne,n,hn=>by
  rw[zdO] at nd;have nd':=zcC.mp nd;intro hb;cases j with
  |zero =>
   cases k with
   |zero=>exact ne rfl
   |succ k =>
    simp only[zaW,zbL] at h1;simp only[zaE] at h2;subst h1;exact nd'.2.2 n hn n (zbu.mpr ⟨b,zaR h2,hb⟩) rfl
  |succ j =>
   simp only[zaE] at h1;cases k with
   |zero =>
    simp only[zaW,zbL] at h2;subst h2;exact nd'.2.2 n hb n (zbu.mpr ⟨a,zaR h1,hn⟩) rfl
   |succ k =>
    simp only[zaE] at h2;exact Al nd'.2.1 h1 h2 (λz=>ne (by rw[z])) n hn hb
theorem XX (h:(fp y).Nodup):(y.cs.flatMap k9).Nodup:=by
 unfold fp at h;simp only[zbF] at h;exact h.2.2.2.2
noncomputable def M.lM (m:M)(x:I):M:={m with pl:=m.pl.dropLast++[x]}
section
variable {S:Cs}{m:M}{y:Ly}{n:Nat}{fR:List I}{x x':I}{ci:List L3}{c:L3}
theorem eF.lM (h:eF S m y)(e1:m.pl=fR++[x])(e2:y.cs=ci++[c])(e3:ci.length=fR.length):eF (j_ S x' c) (m.lM x') y:=by
 obtain⟨d,a1,a2,a3,a4,b1,b2,b3,b4,c1,c2,c3,c4⟩:=CM h.nd (c:=c) (by rw[e2];simp)
 have hI:=h.qG e1 e2 e3;have on:bH (k9 c) S (j_ S x' c):=bH.j_ λ_ h=>h
 have nm:∀j,j≠c.i->j≠c.o->j≠c.s->j∉k9 c:=λj h1 h2 h3 q=>by simp[k9] at q;rcases q with q|q|q;exact h1 q;exact h2 q;exact h3 q
 have ep:(m.lM x').pl=fR++[x']:=by unfold M.lM;simp[e1]
 refine⟨on.at h.a (nm _ a1.symm b1.symm c1.symm),on.at h.k (nm _ a2.symm b2.symm c2.symm),on.at h.p (nm _ a3.symm b3.symm c3.symm),on.at h.l (nm _ a4.symm b4.symm c4.symm),?_,?_,h.nd⟩
 ·rw[ep,e2];simp[e3]
 ·intro j z cz h1 h2
  rw[ep] at h1;by_cases hj:j=fR.length
  ·subst hj
   rw[f6] at h1;rw[e2,<-e3,f6] at h2;cases h1;cases h2
   exact k8 hI d
  ·have Gn:j<fR.length:=by
    have:=(zae.mp h1).1
    simp at this
    omega
   rw[zaj Gn] at h1;refine (h.rS j z cz (by rw[e1,zaj Gn];exact h1) h2).only on (Al (XX h.nd) h2 (k:=fR.length) (by rw[e2,<-e3,f6]) hj)
theorem adO (e1:m.pl=fR++[x])(z:I):(m.lM z).pl=fR++[z]:=by unfold M.lM;simp[e1]
theorem Sz.lM (h:Sz m n)(e1:m.pl=fR++[x])(hs:x'.bW=x.bW)(h1:x'.outs.length<=n)(h2:x'.gO.length<=n):Sz (m.lM x') n:=by
 have ep:=adO e1 x';have hm:∀z∈(m.lM x').pl,z∈m.pl\/z=x':=λz hz=>by
  rw[ep] at hz;rcases zbW.mp hz with q|q
  ·exact .inl (by rw[e1];exact zcg _ q)
  ·exact .inr (by simpa using q)
 refine⟨?_,h.kn,h.fH,h.p0,h.p1,λz hz=>?_,λz hz=>?_,λz hz=>?_⟩
 ·rw[ep];have:=h.pl;rw[e1] at this;simpa using this
 ·rcases hm z hz with q|rfl
  ·exact h.outs z q
  ·exact h1
 ·rcases hm z hz with q|rfl
  ·exact h.gO z q
  ·exact h2
 ·rcases hm z hz with q|rfl
  ·exact h.bW z q
  ·rw[hs];exact h.bW x (by rw[e1];simp)
end
noncomputable def iK (m:M)(x:I)(b:B):Tr:=.tp [.int ((m.pl.length:Int) - 1),.int x.ov,.int x.ba,.str x.oH,.str x.vZ,.str x.vK,b.t,.str (x.vY b)]
noncomputable def lU (m:M)(x:I):gW->M
 |.lR b=>{m.lM (x.pQ m.ru b) with fH:=m.fH++[iK m x b]}
 |.rS n=>m.lM (x.CH n)
 |.pR n=>m.lM (x.yE n)
 |.pS n=>m.lM (x.gG n)
 |.fO=>m.lM { x with en:= "declared" }
 |_=>m
noncomputable def E8 (m:M)(x:I):Str:=if (m.pl.length:Int)=2 * m.ru.i/\0<vL m x.bW then "won" else if x.Qa=true/\x.left (iE m x.bW)=false then "out" else if 0<m.ru.v/\m.ru.v<=x.ov then "overs" else ""
noncomputable def pV (m:M):M:=match gR m with|some x=>m.lM {x with en:=E8 m x} | none=>m
section
variable {S:Cs}{m:M}{y:Ly}{n:Nat}{fR:List I}{x x':I}{ci:List L3}{c:L3}
theorem OZ (h:eF S m y)(z:Sz m n)(hn:n<=1000)(e1:m.pl=fR++[x])(e2:y.cs=ci++[c])(e3:ci.length=fR.length):Hf [.hd y.a,.hd c.i] S = .ok (.str (E8 m x)) S:=by
 have hs:m.pl.length<=1000:=zai z.pl hn
 have hI:=h.qG e1 e2 e3;have k1:=E4 h;have k2:=E5 h x.bW hs;have k3:=OQ hI;have Ue:=z.bW x (by rw[e1];simp)
 have k5:=@jq m x.bW Ue
 have hpl:(iE m x.bW).length<=1000:=by
  have:=z.p0;have:=z.p1
  unfold iE;split<;>omega
 have k4:=adM hI (iE m x.bW) hpl
 unfold nR at k4;have ha:=h.a;have hp:=h.p;have hi:=hI.i;have hz:(y.cs.length<=sizeLine)=True:=bJ (by rw[h.len];omega)
 unfold mF cQ at ha;unfold jt at hi;have cJ:(y.cs.length:Int)=m.pl.length:=by rw[h.len]
 unfold Hf E8;generalize (m.pl.length:Int)=N at *
 generalize vL m x.bW=L at *
 generalize x.Qa=G at *
 generalize x.left (iE m x.bW)=F at *
 generalize hT1:jG (mB (ai (cE false) _ _)) _=T1
 generalize hT2:jG (mB (aN _ _ _ _ _ _)) _=T2
 generalize ZL:mB (mE _ _ _ _ _)=T3
 have a1:T1 [some (.hd y.a),some (.hd c.i)] S = .ok (decide (N=2 * m.ru.i/\0<L)) S:=by
  subst hT1;by_cases h1:N=2 * m.ru.i<;>simp?[fx,ha,hp,hi,hz,k1,k2,cJ,h1,zaf,Z5,Kg,true_and,false_and,decide_false]
 have a2:T2 [some (.hd y.a),some (.hd c.i)] S = .ok (decide (G=true/\F=false)) S:=by
  have eG:decide (G=true/\F=false)=(G && !F):=by cases G<;>cases F<;>rfl
  rw[eG];subst hT2;cases G<;>simp?[fx,ha,hi,k3,k4,k5,zcF,zdv]
 have a3:T3 [some (.hd y.a),some (.hd c.i)] S = .ok (decide (0<m.ru.v/\m.ru.v<=x.ov)) S:=by
  subst ZL;unfold U.t at ha;by_cases h1:0<m.ru.v<;>simp?[fx,ha,hi,h1,Kh,gLe,Kg,true_and,false_and,decide_false]
 clear hT1 hT2 ZL ha hi hp k1 k2 k3 k4 k5
 by_cases q1:N=2 * m.ru.i/\0<L
 ·rw[decide_eq_true q1] at a1
  rw[if_pos q1];simp?[a1]
 ·rw[decide_eq_false q1] at a1
  rw[if_neg q1];by_cases q2:G=true/\F=false
  ·rw[decide_eq_true q2] at a2
   rw[if_pos q2];simp?[a1,a2]
  ·rw[decide_eq_false q2] at a2
   rw[if_neg q2];by_cases q3:0<m.ru.v/\m.ru.v<=x.ov
   ·rw[decide_eq_true q3] at a3
    rw[if_pos q3];simp?[a1,a2,a3]
   ·rw[decide_eq_false q3] at a3
    rw[if_neg q3];simp?[a1,a2,a3]
theorem Ug (h:(fp y).Nodup):y.a≠y.k/\y.a≠y.p/\y.a≠y.l/\y.k≠y.p/\y.k≠y.l/\y.p≠y.l:=by
 unfold fp at h;simp only[zbF,zap,not_or] at h;exact⟨h.1.1,h.1.2.1,h.1.2.2.1,h.2.1.1,h.2.1.2.1,h.2.2.1.1⟩
theorem eF.v_ (h:eF S m y)(on:bH [n] S S')(hn:∀c∈y.cs,n∉k9 c):∀(j:Nat) x c,m.pl[j]? = some x->y.cs[j]? = some c->g_ S' x c:=λj x c h1 h2=>(h.rS j x c h1 h2).only on λk hk q=>by
 simp at q
 subst q;exact hn c (zaR h2) hk
theorem Hy (h:(fp y).Nodup)(hk:k=y.a\/k=y.k\/k=y.p\/k=y.l):∀c∈y.cs,k∉k9 c:=λc hc q=>by
 obtain⟨d,a1,a2,a3,a4,b1,b2,b3,b4,c1,c2,c3,c4⟩:=CM h (c:=c) hc
 simp[k9] at q
 rcases hk with rfl|rfl|rfl|rfl<;>rcases q with q|q|q<;>first|exact a1 q.symm|exact a2 q.symm|exact a3 q.symm|exact a4 q.symm|exact b1 q.symm|exact b2 q.symm|exact b3 q.symm|exact b4 q.symm|exact c1 q.symm|exact c2 q.symm|exact c3 q.symm|exact c4 q.symm
theorem eF.amO (h:eF S m y)(l:List Tr):eF (S.set y.l (.aV l)) {m with fH:=l} y:=by
 obtain⟨a1,a2,a3,a4,a5,a6⟩:=Ug h.nd;exact⟨by rw[dc a3.symm];exact h.a,by rw[dc a5.symm];exact h.k,by rw[dc a6.symm];exact h.p,cN (bB h.l),h.len,h.v_ (bH.set (by simp)) (Hy h.nd (.inr (.inr (.inr rfl)))),h.nd⟩
theorem Uh (h:eF S m y)(z:Sz m n)(hn:n<=1000)(e1:m.pl=fR++[x])(e2:y.cs=ci++[c])(e3:ci.length=fR.length)(hx:x.en="")(b:B):
  G6 [.hd y.a,b.t] S = .ok .bw ((j_ S (x.pQ m.ru b) c).set y.l (.aV (m.fH++[iK m x b]))):=by
 unfold G6 iK;have hs:m.pl.length<=1000:=zai z.pl hn
 have hI:=h.qG e1 e2 e3;have Ui:x∈m.pl:=by rw[e1];simp
 obtain⟨d,a1,a2,a3,a4,b1,b2,b3,b4,c1,c2,c3,c4⟩:=CM h.nd (c:=c) (by rw[e2];simp)
 have k1:=fP h hs;rw[su e1 e2,if_pos hx] at k1;have k2:=adL hI d m.ru b (zai (z.outs x Ui) hn)
 have hM:=eF.lM (x':=x.pQ m.ru b) h e1 e2 e3
 have ha:=h.a;have hp:=h.p;have hi:=hI.i;have Ra:=hM.a;have hl':=hM.l;have Ig:(m.lM (x.pQ m.ru b)).fH=m.fH:=rfl
 rw[Ig] at hl';have hz:(y.cs.length<=sizeLine)=True:=bJ (by rw[h.len];omega)
 have hz2:(m.fH.length<sizeLine)=True:=kR (by have:=z.fH;omega)
 have cJ:(y.cs.length:Int)=m.pl.length:=by rw[h.len]
 unfold mF at ha Ra;unfold jt at hi;generalize (m.pl.length:Int)=N at *
 generalize x.vY b=o at *
 generalize j_ S (x.pQ m.ru b) c=S1 at *
 unfold B.t at *
 simp?[fx,k1,ha,hp,hi,hz,cJ,zaf,dw,k2,Ra,hl',hz2]
end
noncomputable def Am (s:Int)(f o b:Str):I:=⟨s,f,o,b,"",0,0,0,0,"",[],[(b,1)]⟩
noncomputable def jd (k:Nat):L3:=⟨k,k+1,k+2⟩
noncomputable def E9 (S:Cs)(s:Int)(f o b:Str):Cs:=S++[Ce.fE "Innings" (jt (Am s f o b) (jd S.length)),Ce.gQ [],Ce.gQ [(Sum.inr b,Tr.int 1)]]
noncomputable def Jx (S:Cs)(y:Ly)(s:Int)(f o b:Str):Cs:=(E9 S s f o b).set y.p (.aV (y.cs.map (λc=>Tr.hd c.i)++[Tr.hd S.length]))
theorem ga0:(S++(a::r))[S.length]? = some a:=by simp
theorem sa0:(S++(a::r)).set S.length b=S++(b::r):=by
 rw[zdf _ _ (zah _),zeX];rfl
theorem ga2:(S++(a::b::c::r))[S.length+2]? = some c:=by
 rw[zat (by omega),show S.length+2 - S.length=2 by omega];rfl
theorem sa2:(S++(a::b::c::r)).set (S.length+2) d=S++(a::b::d::r):=by
 rw[zdf _ _ (by omega),show S.length+2 - S.length=2 by omega];rfl
theorem aiT (S:Cs)(s:Int)(f o b:Str):Tw [.hd S.length,.int s,.str f,.str o,.str b] (S++[.fE "Innings" []]) = .ok .bw (E9 S s f o b):=by
 unfold Tw E9 jt Am jd;simp?[fx,ga0,sa0,ga2,sa2,eB,jf,zbJ,zbn,List.foldl_nil,zeW]
section
variable {S:Cs}{m:M}{y:Ly}{n:Nat}{fR:List I}{x x':I}{ci:List L3}{c:L3}
theorem eF.lt (h:eF S m y):∀j∈fp y,j<S.length:=by
 intro j hj;unfold fp at hj;simp only[zap,zbu] at hj;rcases hj with rfl|rfl|rfl|rfl|⟨c,hc,hj⟩
 ·exact bB h.a
 ·exact bB h.k
 ·exact bB h.p
 ·exact bB h.l
 ·obtain⟨k,hk⟩:=List.getElem?_of_mem hc
  have hk2:k<m.pl.length:=by rw[<-h.len];exact (zae.mp hk).1
  have hI:=h.rS k m.pl[k] c (zac hk2) hk
  simp[k9] at hj
  rcases hj with rfl|rfl|rfl
  ·exact bB hI.i
  ·exact bB hI.o
  ·exact bB hI.s
theorem eF.aiU (h:eF S m y)(s:Int)(f o b:Str):eF (Jx S y s f o b) {m with pl:=m.pl++[Am s f o b]} {y with cs:=y.cs++[jd S.length]}:=by
 have on:bH [y.p] S (Jx S y s f o b):=bH.trans bH.rJ (bH.set (by simp))
 obtain⟨a1,a2,a3,a4,a5,a6⟩:=Ug h.nd;have jR:=h.lt;have hp:=jR y.p (by simp[fp])
 have ne:∀k,S.length<=k->y.p≠k:=λk hk z=>by omega
 refine⟨on.at h.a (by simp[a2]),on.at h.k (by simp[a4]),?_,on.at h.l (by simp[a6.symm]),by simp[h.len],?_,?_⟩
 ·unfold Jx E9
  rw[cN (by simp;omega)]
  simp[jd]
 ·intro j z cz h1 h2
  by_cases hj:j=m.pl.length
  ·subst hj
   have q1:(m.pl++[Am s f o b])[m.pl.length]? = some (Am s f o b):=f6 _ _
   have q2:(y.cs++[jd S.length])[m.pl.length]? = some (jd S.length):=by rw[<-h.len];exact f6 _ _
   simp only at h1 h2
   rw[q1] at h1;rw[q2] at h2;cases h1;cases h2
   unfold Jx E9;refine⟨?_,?_,?_⟩
   ·rw[dc (k:=(jd S.length).i) (ne _ (zah _))]
    show (S++_)[S.length]? = _
    exact ga0
   ·rw[dc (k:=(jd S.length).o) (ne _ (by simp[jd]))]
    show (S++_)[S.length+1]? = _
    rw[zat (by omega),show S.length+1 - S.length=1 by omega]
    rfl
   ·rw[dc (k:=(jd S.length).s) (ne _ (by simp[jd]))]
    show (S++_)[S.length+2]? = _
    rw[zat (by omega),show S.length+2 - S.length=2 by omega]
    rfl
  ·have Gn:j<m.pl.length:=by
    have:=(zae.mp h1).1
    simp at this
    omega
   simp only at h1 h2
   rw[zaj Gn] at h1;rw[zaj (by rw[h.len];exact Gn)] at h2
   exact h.v_ on (Hy h.nd (.inr (.inr (.inl rfl)))) j z cz h1 h2
 ·show (fp {y with cs:=y.cs++[jd S.length]}).Nodup
  have e:fp {y with cs:=y.cs++[jd S.length]}=fp y++[S.length,S.length+1,S.length+2]:=by
   unfold fp;simp[k9,jd]
  rw[e,zcC];refine⟨h.nd,by simp,λa ha b hb=>?_⟩
  have:=jR a ha
  simp at hb
  omega
theorem Uj (h:eF S m y)(z:Sz m n)(hn:n<=1000)(t f o b:Str)(s:Int)(hs:Ak m t=some s):G3 [.hd y.a,(gW.cV t f o b).t] S = .ok .bw (Jx S y s f o b):=by
 unfold G3 gW.t;have e1:=XU h z hn t;rw[hs] at e1;have e2:=aiT S s f o b;have ha:=h.a;have hp:=h.p;have on:bH [] S (E9 S s f o b):=bH.rJ
 have hp':=on.at h.p (by simp)
 have hz2:(y.cs.length<sizeLine)=True:=kR (by have:=z.pl;rw[h.len];omega)
 unfold mF at ha;unfold Jx;generalize E9 S s f o b=S1 at *
 simp?[fx,e1,lT,ha,hp,e2,hp',zaf,hz2]
theorem amQ (h:eF S m y)(z:Sz m n)(hn:n<=1000)(e1:m.pl=fR++[x])(e2:y.cs=ci++[c])(e3:ci.length=fR.length)(hx:x.en="")(e:gW)(he:e.yF=true):
  ∃S',vJ [.hd y.a,e.t] S = .ok .bw S'/\eF S' (lU m x e) y/\bH (fp y) S S':=by
 have hs:m.pl.length<=1000:=zai z.pl hn
 have hI:=h.qG e1 e2 e3;have Ui:x∈m.pl:=by rw[e1];simp
 obtain⟨d,_⟩:=CM h.nd (c:=c) (by rw[e2];simp)
 have k1:=fP h hs;rw[su e1 e2,if_pos hx] at k1;have ha:=h.a;have hi:=hI.i;have U5:=bB hI.i;have onc:∀x',bH (fp y) S (j_ S x' c):=λx'=>bH.j_ λj hj=>by
  unfold fp;simp only[zap,zbu];exact .inr (.inr (.inr (.inr ⟨c,by rw[e2];simp,hj⟩)))
 unfold mF at ha;unfold jt at hi;unfold vJ;cases e with
 |lR b =>
  have k2:=Uh h z hn e1 e2 e3 hx b;refine⟨_,?_,(eF.lM (x':=x.pQ m.ru b) h e1 e2 e3).amO (m.fH++[iK m x b]),(onc _).trans (bH.set (by simp[fp]))⟩
  generalize iK m x b=r at *
  unfold gW.t;unfold B.t at *
  simp?[fx,k1,ha,k2]
 |rS nm =>
  have k2:=adG hI d nm;refine⟨_,?_,eF.lM (x':=x.CH nm) h e1 e2 e3,onc _⟩
  unfold gW.t;simp?[fx,k1,ha,hi,k2]
 |pR nm =>
  have k2:=T_ hI d nm (zai (z.gO x Ui) hn)
  refine⟨_,?_,eF.lM (x':=x.yE nm) h e1 e2 e3,onc _⟩
  unfold gW.t;simp?[fx,k1,ha,hi,k2]
 |pS nm =>
  have k2:=Ht hI d nm;refine⟨_,?_,eF.lM (x':=x.gG nm) h e1 e2 e3,onc _⟩
  unfold gW.t;simp?[fx,k1,ha,hi,k2]
 |fO =>
  have k2:=lI (y:={ x with en:= "declared" }) hI d rfl rfl
  refine⟨_,?_,eF.lM (x':={ x with en:= "declared" }) h e1 e2 e3,onc _⟩
  unfold gW.t;unfold jt at k2;simp?[fx,k1,ha,hi,k2]
 |cV _ _ _ _=>cases he
 |swap _ _=>cases he
 |h_=>cases he
 |lJ=>cases he
noncomputable def An:Str:= "the rules don't let this entry: "
theorem vM:An.length=32:=by decide +kernel
theorem Jy (w:Str)(hw:w.length<=100)(e:Tr)(hm:S[y.a]? = some (.fE "Match" (mF m y)))(hr:rm [.hd y.a,e] S = .ok (.str w) S0):
  rq [.hd y.a,e] S = .ex S0.length (S0++[.wD "NotLet" [("rule",.str w),("number",.int 0)]]):=by
 unfold rq;unfold mF at hm;have h1:(w.length<=sizeLine)=True:=bJ (by omega)
 have h2:((Str.empty++An).length<=sizeLine)=True:=bJ (by
  rw[Str.length_append,vM];decide)
 have h3:((Str.empty++An++w).length<=sizeLine)=True:=bJ (by
  rw[Str.length_append,Str.length_append,vM];have:Str.empty.length=0:=rfl
  omega)
 unfold An at h2 h3;simp?[fx,hm,hr,fJ,aam,h1,h2,h3]
theorem E_ (h:eF S m y)(z:Sz m n)(e:Tr)(hr:rm [.hd y.a,e] S = .ok .bw S0)(h0:eF S0 m y)(hy:y1.a=y.a)(hd:vJ [.hd y.a,e] S0 = .ok .bw S1)(h1:eF S1 m1 y1)(z1:Sz m1 k)(hn:k<=1000):
  ∃S',rq [.hd y.a,e] S = .ok .bw S'/\eF S' (pV m1) y1/\bH (fp y1) S1 S':=by
 have ha:=h.a;have ha0:=h0.a;have ZK:=h1.a;have k1:=fP h1 (zai z1.pl hn)
 rw[hy] at ZK k1;unfold mF at ha ha0 ZK;unfold rq;cases hg:(gR m1).isSome
 ·have eg:=f7 h1.len hg
  have ef:pV m1=m1:=by
   unfold pV;cases hq:gR m1 with
   |none=>rfl
   |some x=>rw[hq] at hg;cases hg
  refine⟨S1,?_,by rw[ef];exact h1,bH.refl⟩
  simp?[fx,ha,ha0,hr,hd,ZK,k1,eg]
 ·obtain⟨fR,x,ci,c,b1,b2,b3,b4,b5,b6⟩:=fK h1.len hg
  have hI:=h1.qG b1 b2 b3;obtain⟨d,_⟩:=CM h1.nd (c:=c) (by rw[b2];simp)
  have k2:=OZ h1 z1 hn b1 b2 b3;rw[hy] at k2;have k3:=lI (y:={x with en:=E8 m1 x}) hI d rfl rfl
  have hi:=hI.i;have ef:pV m1=m1.lM {x with en:=E8 m1 x}:=by unfold pV;rw[b6]
  refine⟨j_ S1 {x with en:=E8 m1 x} c,?_,by rw[ef];exact eF.lM h1 b1 b2 b3,bH.j_ λj hj=>?_⟩
  ·unfold jt at hi k3
   generalize E8 m1 x=en at *
   simp?[fx,ha,ha0,hr,hd,ZK,k1,b5,k2,hi,k3]
  ·unfold fp
   simp only[zap,zbu];exact .inr (.inr (.inr (.inr ⟨c,by rw[b2];simp,hj⟩)))
theorem O0 (x:I)(a b:Str):(x.wR a b).outs.length<=x.outs.length+1/\(x.wR a b).gO=x.gO/\(x.wR a b).bW=x.bW:=by
 unfold I.wR;have hl:∀(z:I) (k:Str),(z.gG k).outs=z.outs/\(z.gG k).gO=z.gO/\(z.gG k).bW=z.bW:=λz k=>by unfold I.gG;split<;>exact⟨rfl,rfl,rfl⟩
 dsimp only;generalize hy:I.gG {x with outs:=gJ x.outs a,wk:=x.wk+1} a=y
 have h1:y.outs=gJ x.outs a/\y.gO=x.gO/\y.bW=x.bW:=by rw[<-hy,(hl _ _).1,(hl _ _).2.1,(hl _ _).2.2];exact⟨rfl,rfl,rfl⟩
 have h2:y.outs.length<=x.outs.length+1:=by
  rw[h1.1];unfold gJ
  split<;>simp
 split<;>split<;>exact⟨h2,h1.2⟩
theorem O1 (u:U)(x:I)(b:B):(x.pQ u b).outs.length<=x.outs.length+1/\(x.pQ u b).gO=x.gO/\(x.pQ u b).bW=x.bW:=by
 unfold I.pQ;have hf:∀(x:I) (o:Int),(x.wU o).outs=x.outs/\(x.wU o).gO=x.gO/\(x.wU o).bW=x.bW:=λx o=>by unfold I.wU;split<;>exact⟨rfl,rfl,rfl⟩
 dsimp only;generalize hz:(if oJ b.r b.rp=true then I.swap {x with C9:=x.C9+b.nN u} else {x with C9:=x.C9+b.nN u})=z
 have z1:z.outs=x.outs/\z.gO=x.gO/\z.bW=x.bW:=by rw[<-hz];split<;>exact⟨rfl,rfl,rfl⟩
 generalize hw:(if x.vY b="" then z else z.wR (x.vY b) (if b.w="run" then b.en else "strike"))=w
 have w1:w.outs.length<=x.outs.length+1/\w.gO=x.gO/\w.bW=x.bW:=by
  rw[<-hw,<-z1.1,<-z1.2.1,<-z1.2.2];split
  ·exact⟨zbk _,rfl,rfl⟩
  ·exact O0 _ _ _
 split
 ·rw[(hf w u.o).1,(hf w u.o).2.1,(hf w u.o).2.2];exact w1
 ·exact w1
theorem yG (l:List (Str×Int))(k:Str)(v:Int):(mU l k v).length<=l.length+1:=by unfold mU;split<;>simp
theorem Sz.mono (h:Sz m n)(hn:n<=n'):Sz m n':=⟨zai h.pl hn,zai h.kn hn,zai h.fH hn,h.p0,h.p1,λx hx=>zai (h.outs x hx) hn,λx hx=>zai (h.gO x hx) hn,h.bW⟩
theorem Sz.lU (z:Sz m n)(e1:m.pl=fR++[x])(e:gW):Sz (lU m x e) (n+1):=by
 have Ui:x∈m.pl:=by rw[e1];simp
 have z':=z.mono (zbk n)
 have ho:=z.outs x Ui;have hs:=z.gO x Ui;cases e with
 |lR b =>
  have q:=O1 m.ru x b;have k:=z'.lM (x':=x.pQ m.ru b) e1 q.2.2 (by omega) (by rw[q.2.1];omega)
  refine⟨k.pl,k.kn,?_,k.p0,k.p1,k.outs,k.gO,k.bW⟩
  show (m.fH++[iK m x b]).length<=n+1
  have:=z.fH
  simp
  exact this
 |rS nm=>exact z'.lM (x':=x.CH nm) e1 (by unfold I.CH;split<;>rfl) (by unfold I.CH;split<;>(show x.outs.length<=_;omega)) (by unfold I.CH;split<;>(show x.gO.length<=_;omega))
 |pR nm=>exact z'.lM (x':=x.yE nm) e1 rfl (by show x.outs.length<=_;omega) (by have:=yG x.gO nm (jm x.gO nm+1);show (mU _ _ _).length<=_;omega)
 |pS nm=>exact z'.lM (x':=x.gG nm) e1 (by unfold I.gG;split<;>rfl) (by unfold I.gG;split<;>(show x.outs.length<=_;omega)) (by unfold I.gG;split<;>(show x.gO.length<=_;omega))
 |fO=>exact z'.lM (x':={ x with en:= "declared" }) e1 rfl (by show x.outs.length<=_;omega) (by show x.gO.length<=_;omega)
 |cV _ _ _ _=>exact z'
 |swap _ _=>exact z'
 |h_=>exact z'
 |lJ=>exact z'
theorem Sz.fL (z:Sz m n):Sz (pV m) n:=by
 unfold pV;cases hg:gR m with
 |none=>exact z
 |some x =>
  rcases zaV m.pl with h|⟨fR,w,h⟩
  ·unfold gR at hg;rw[h] at hg;cases hg
  ·have h:m.pl=fR++[w]:=by simpa using h
   rw[pU h] at hg;split at hg
   ·cases hg
    exact z.lM h rfl (z.outs x (by rw[h];simp)) (z.gO x (by rw[h];simp))
   ·cases hg
end
noncomputable def iQ (u:U)(t0 t1:Str)(p0 p1:List Str):M:=⟨u,t0,t1,p0,p1,p0++p1,[],false,false,[]⟩
noncomputable def vN (k:Nat):Ly:=⟨k,k+1,k+2,k+3,[]⟩
noncomputable def yH (S:Cs)(m:M):Cs:=S++[Ce.fE "Match" (mF m (vN S.length)),Ce.aV (m.kn.map .str),Ce.aV [],Ce.aV []]
theorem ga1:(S++(a::b::r))[S.length+1]? = some b:=by
 rw[zat (by omega),show S.length+1 - S.length=1 by omega];rfl
theorem ga3:(S++(a::b::c::d::r))[S.length+3]? = some d:=by
 rw[zat (by omega),show S.length+3 - S.length=3 by omega];rfl
theorem O2 (t0 t1:Str)(p0 p1:List Str)(h0:p0.length<=11)(h1:p1.length<=11)(S:Cs):Ct [cQ t0 t1 p0 p1,.str "player"] S = .ok (.hd S.length) (S++[.aV ((p0++p1).map .str)]):=by
 unfold Ct cQ;have hl:(p0.length<=sizeLine)=True:=bJ (by omega)
 have Ig:(p0.length+p1.length<=sizeLine)=True:=bJ (by omega)
 simp?[fx,IU,zaf,zaF,hl,Ig,zcP,zak]
theorem adP (u:U)(t0 t1:Str)(p0 p1:List Str)(h0:p0.length<=11)(h1:p1.length<=11)(S:Cs):GO [.hd S.length,u.t,cQ t0 t1 p0 p1] (S++[.fE "Match" []]) = .ok .bw (yH S (iQ u t0 t1 p0 p1)):=by
 unfold GO yH iQ mF vN;have ht:=λS=>O2 t0 t1 p0 p1 h0 h1 S
 have hl0:(p0.length<=sizeLine)=True:=bJ (by omega)
 have U7:(p1.length<=sizeLine)=True:=bJ (by omega)
 have hz:(∀n:Nat,(n<5)=True->(n<sizeLine)=True):=λn h=>kR (by have:=of_eq_true h;omega)
 unfold cQ at ht ⊢
 generalize u.t=ut at *
 simp?[fx,ht,hz,zaf,hl0,U7,ga0,sa0,zbJ]
theorem Uk (S:Cs)(u:U)(t0 t1:Str)(p0 p1:List Str):eF (yH S (iQ u t0 t1 p0 p1)) (iQ u t0 t1 p0 p1) (vN S.length):=by
 unfold yH;refine⟨ga0,ga1,ga2,ga3,rfl,λj x c h=>?_,?_⟩
 ·simp[iQ] at h
 ·simp[fp,vN]
theorem Ul (u:U)(t0 t1:Str)(p0 p1:List Str)(h0:p0.length<=11)(h1:p1.length<=11):Sz (iQ u t0 t1 p0 p1) 22:=⟨by simp[iQ],by simp[iQ];omega,by simp[iQ],h0,h1,λx h=>by simp[iQ] at h,λx h=>by simp[iQ] at h,λx h=>by simp[iQ] at h⟩
noncomputable def qH (m:M):Tr:=match gR m with
 |some x=>.tp [.str (lS m x.bW),.str x.oH,.str x.vZ,.str x.vK,.int x.C9,.int x.wk,.int x.ov,.int x.ba]
 |none=>.bw
section
variable {S:Cs}{m:M}{y:Ly}{n:Nat}
theorem Um (h:eF S m y)(z:Sz m n)(hn:n<=1000):Hg [.hd y.a] S = .ok (qH m) S:=by
 unfold Hg qH;have k1:=fP h (zai z.pl hn)
 have ha:=h.a;unfold mF cQ at ha;cases hg:(gR m).isSome
 ·have eg:=f7 h.len hg
  have en:gR m=none:=by
   cases hq:gR m with
   |none=>rfl
   |some x=>rw[hq] at hg;cases hg
  rw[en];refine pD (S1:=S) (t:=.bw) ?_ (zbr ..) (by unfold Bp;simp only[Sb];rfl)
  simp?[fx,ha,k1,eg]
 ·obtain⟨fR,x,ci,c,b1,b2,b3,b4,b5,b6⟩:=fK h.len hg
  have hi:=(h.qG b1 b2 b3).i
  unfold jt at hi;have k5:=@jq m x.bW (z.bW x (by rw[b1];simp))
  rw[b6];refine pD (S1:=S) (t:=.tp [.str (lS m x.bW),.str x.oH,.str x.vZ,.str x.vK,.int x.C9,.int x.wk,.int x.ov,.int x.ba]) ?_ (zbr ..) ?_
  ·simp?[fx,ha,hi,k1,b5,k5]
  ·unfold Bp
   simp only[pF,Mw,Gj,zG,zaG,zbt,zbi];rfl
end
noncomputable def nF (a b n:Str):Str:=if n=a then b else n
noncomputable def Ao (a b:Str)(l:List Str):List Str:=l.foldl (λq n=>gJ q (nF a b n)) []
noncomputable def Fb (a b:Str)(l:List (Str×Int)):List (Str×Int):=l.foldl (λq p=>mU q (nF a b p.1) (jm l p.1)) []
theorem Fc (l:List Str)(n:Str):(gJ l n).length<=l.length+1:=by unfold gJ;split<;>simp
theorem O3:(Ao a b l).length<=l.length:=by
 have:∀(l q:List Str),(l.foldl (λq n=>gJ q (nF a b n)) q).length<=q.length+l.length:=by
  intro l;induction l with
  |nil=>intro q;simp
  |cons n r ih=>intro q;rw[zbn];have:=ih (gJ q (nF a b n));have:=Fc q (nF a b n);rw[zav];omega
 simpa[Ao] using this l []
theorem O4:(Fb a b l).length<=l.length:=by
 have:∀(g:Str->Int) (l q:List (Str×Int)),(l.foldl (λq p=>mU q (nF a b p.1) (g p.1)) q).length<=q.length+l.length:=by
  intro g l;induction l with
  |nil=>intro q;simp
  |cons n r ih=>intro q;rw[zbn];have:=ih (mU q (nF a b n.1) (g n.1));have:=yG q (nF a b n.1) (g n.1);rw[zav];omega
 simpa[Fb] using this (jm l) l []
theorem amS (l:List Str):eB [] (l.map λn=>(Sum.inr (nF a b n),Tr.bl true))=iC (Ao a b l):=by
 unfold eB Ao;rw[List.foldl_map];have:∀(l q:List Str),l.foldl (λx y=>jf x (Sum.inr (nF a b y):dz) (Tr.bl true)) (iC q)=iC (l.foldl (λq n=>gJ q (nF a b n)) q):=by
  intro l;induction l with
  |nil=>intro q;rfl
  |cons n r ih=>intro q;rw[zbn,CI,ih,zbn]
 exact this l []
theorem amT (l:List (Str×Int)):eB [] (l.map λp=>(Sum.inr (nF a b p.1),Tr.int (jm l p.1)))=sj (Fb a b l):=by
 unfold eB Fb;rw[List.foldl_map];have:∀(g:Str->Int) (l q:List (Str×Int)),l.foldl (λx y=>jf x (Sum.inr (nF a b y.1):dz) (Tr.int (g y.1))) (sj q)=sj (l.foldl (λq p=>mU q (nF a b p.1) (g p.1)) q):=by
  intro g l;induction l with
  |nil=>intro q;rfl
  |cons n r ih=>intro q;rw[zbn,Hw,ih,zbn]
 exact this (jm l) l []
theorem yI {α:Type}(k:α -> Str)(v:α -> Tr):∀l:List α,qC (l.map λp=>.tp [.str (k p),v p])=some (l.map λp=>(Sum.inr (k p),v p))
 |[]=>rfl
 |p::r=>by
  rw[zY];unfold qC;rw[yI k v r];rfl
theorem XY {α:Type}{S:Cs}{k:Nat}{D:List (dz×Tr)}(hk:S[k]? = some (.gQ D))(a b:Str)(L:List α)(nm:α -> Str)(vl:α -> Tr)(hD:D.map (λp=>M1 p.1)=L.map λp=>.str (nm p))(hv:∀p∈L,aP (.inr (nm p)) D=some (vl p))(hl:L.length<=1000):
  CA [.hd k,.str a,.str b] S = .ok (.hd S.length) (S.set k (.wF D)++[.gQ (eB [] (L.map λp=>(Sum.inr (nF a b (nm p)),vl p)))]):=by
 unfold CA;have hf:(S.set k (.wF D))[k]? = some (.wF D):=cN (bB hk)
 generalize hS:S.set k (.wF D)=S1 at *
 simp only[Bq,gE,aE,bA,af,fu,tZ,aa,aj,iD,hk,hD,hS,R.dX,R.fN,jM,zY,zaI,zbP,zaX,zav,zbe,Nat.reduceAdd,Nat.reduceSub,zcp,zay,zaW,zaE,Option.join,zcm,id_eq,zaw];rw[jh trivial (λτ=>∃v,τ=[some (.str b),some (.hd k),some (.str a),v]) (λp=>.str (nm p)) (λp=>.tp [.str (nF a b (nm p)),vl p]) (λ_=>true) L _ [] ⟨_,rfl⟩ ?_ (by simp;omega)]
 ·rw[zaX,zdu.mpr (λ_ _=>rfl)]
  have Ig:(L.map λp=>((Sum.inr (nF a b (nm p)):dz),vl p)).length<=1000:=by simpa using hl
  have hL1:S1.length=S.length:=by rw[<-hS];simp
  simp only[R.dX,zW,D0,yI (λp=>nF a b (nm p)) vl,R.fN,t7,if_pos Ig,hL1]
 ·rintro p hp τ ⟨v,rfl⟩
  refine⟨[some (.str b),some (.hd k),some (.str a),some (.str (nm p))],⟨_,rfl⟩,rfl,rfl,λ_=>?_⟩
  have h1:=hv p hp;unfold nF;by_cases h:nm p=a
  ·rw[if_pos h]
   rw[h] at h1;simp?[h,MZ,MY,hf,zbY,h1]
  ·rw[if_neg h]
   simp?[h,MZ,MY,hf,zbY,h1]
theorem Jz (h:k∈l):aP (.inr k) (iC l)=some (.bl true):=by
 have h1:=kg (k:=k) (l:=l)
 rw[decide_eq_true h] at h1;obtain⟨t,e⟩:=zcj.mp h1;rw[e];have:∀l:List Str,aP (.inr k) (iC l)=some t->t = .bl true:=by
  intro l;induction l with
  |nil=>intro q;cases q
  |cons a r ih =>
   intro q;unfold iC at q;rw[zY] at q;unfold aP at q;split at q
   ·cases q;rfl
   ·exact ih q
 rw[this l e]
theorem O5:∀p∈l,aP (.inr p.1) (sj l)=some (.int (jm l p.1)):=by
 induction l with
 |nil=>intro p h;cases h
 |cons a r ih =>
  intro p h;unfold sj;rw[zY];obtain⟨k,v⟩:=a;unfold aP jm;by_cases e:k=p.1
  ·rw[if_pos (by rw[e]),if_pos e]
  ·rw[if_neg (λz=>e (zdx z)),if_neg e]
   rcases zap.mp h with rfl|h
   ·exact absurd rfl e
   ·exact ih p h
noncomputable def I.nF (x:I)(a b:Str):I:={x with XQ:=My.nF a b x.XQ,outs:=Ao a b x.outs,gO:=Fb a b x.gO}
section
variable {S:Cs}{x:I}{c:L3}
theorem O6 (h:g_ S x c)(d:Dj c)(a b:Str)(ho:x.outs.length<=1000)(hs:x.gO.length<=1000):
  ∃S',G8 [.hd c.i,.str a,.str b] S = .ok .bw S'/\g_ S' (x.nF a b) ⟨c.i,S.length,S.length+1⟩/\bH (k9 c) S S':=by
 have k1:=XY h.o a b x.outs id (λ_=>.bl true) (by unfold iC;rw[zbz];rfl) (λp hp=>Jz hp) ho
 simp only[id] at k1;rw[amS] at k1;have hi:=h.i;have lo:=bB h.o;have li:=bB h.i;have ls:=bB h.s;generalize hS1:S.set c.o (.wF (iC x.outs))++[.gQ (iC (Ao a b x.outs))]=S1 at *
 have on1:bH (k9 c) S S1:=by rw[<-hS1];exact (bH.set (by simp[k9])).trans bH.rJ
 have l1:S1.length=S.length+1:=by rw[<-hS1];simp
 have i1:S1[c.i]? = some (.fE "Innings" (jt x c)):=by
  rw[<-hS1,zaj (by simpa using li),dc d.io.symm];exact hi
 have s1:S1[c.s]? = some (.gQ (sj x.gO)):=by
  rw[<-hS1,zaj (by simpa using ls),dc d.os];exact h.s
 have o1:S1[S.length]? = some (.gQ (iC (Ao a b x.outs))):=by
  rw[<-hS1,zat (by simp)];simp
 generalize C5:S1.set c.i (.fE "Innings" (jt x ⟨c.i,S.length,c.s⟩))=S2 at *
 have on2:bH (k9 c) S S2:=by rw[<-C5];exact on1.trans (bH.set (by simp[k9]))
 have l2:S2.length=S.length+1:=by rw[<-C5];simpa using l1
 have i2:S2[c.i]? = some (.fE "Innings" (jt x ⟨c.i,S.length,c.s⟩)):=by rw[<-C5];exact cN (by omega)
 have s2:S2[c.s]? = some (.gQ (sj x.gO)):=by rw[<-C5,dc d.is];exact s1
 have o2:S2[S.length]? = some (.gQ (iC (Ao a b x.outs))):=by rw[<-C5,dc (by omega)];exact o1
 have k2:=XY s2 a b x.gO (·.1) (λp=>.int (jm x.gO p.1)) (by unfold sj;rw[zbz];rfl) O5 hs
 rw[amT,l2] at k2;generalize hS3:S2.set c.s (.wF (sj x.gO))++[.gQ (sj (Fb a b x.gO))]=S3 at *
 have on3:bH (k9 c) S S3:=by rw[<-hS3];exact on2.trans ((bH.set (by simp[k9])).trans bH.rJ)
 have l3:S3.length=S.length+2:=by rw[<-hS3];simp[l2]
 have i3:S3[c.i]? = some (.fE "Innings" (jt x ⟨c.i,S.length,c.s⟩)):=by
  rw[<-hS3,zaj (by simp;omega),dc d.is.symm];exact i2
 have o3:S3[S.length]? = some (.gQ (iC (Ao a b x.outs))):=by
  rw[<-hS3,zaj (by simp;omega),dc (by omega)];exact o2
 have s3:S3[S.length+1]? = some (.gQ (sj (Fb a b x.gO))):=by
  rw[<-hS3,zat (by simp;omega)];simp[l2]
 have li3:c.i<S3.length:=by omega
 refine⟨S3.set c.i (.fE "Innings" (jt (x.nF a b) ⟨c.i,S.length,S.length+1⟩)),?_,⟨cN li3,by rw[dc (by show ¬ c.i=S.length;omega)];exact o3,by rw[dc (by show ¬ c.i=S.length+1;omega)];exact s3⟩,on3.trans (bH.set (by simp[k9]))⟩
 unfold G8 I.nF nF;unfold jt at hi i1 C5 i2 i3 ⊢
 by_cases hh:x.XQ=a
 ·subst hh
  simp?[fx,hi,k1,i1,C5,i2,k2,i3,cN li3,fB]
 ·simp?[fx,hi,k1,i1,C5,i2,k2,i3,hh,cN li3,fB]
end
theorem XZ (ps:List Str)(a b:Str)(S:Cs)(hl:ps.length<=1000):G7 [.ls (ps.map .str),.str a,.str b] S = .ok (.ls ((ps.map (nF a b)).map .str)) S:=by
 unfold G7;simp only[Bq,gE,aE,fu,tZ,aa,iL,vW,R.dX,R.fN,jM,zY,zaI,zbP,zaX,zav,zbe,Nat.reduceAdd,Nat.reduceSub,zcp,zay,zaW,zaE,Option.join,zcm,id_eq,zaw];rw[jh trivial (λτ=>∃v,τ=[some (.str b),some (.str a),v]) (λn=>.str n) (λn=>.str (nF a b n)) (λ_=>true) ps _ [] ⟨_,rfl⟩ ?_ (by simp;omega)]
 ·rw[zaX,zdu.mpr (λ_ _=>rfl),zbz]
  simp only[R.dX,R.fN,t7];rfl
 ·rintro n hn τ ⟨v,rfl⟩
  refine⟨[some (.str b),some (.str a),some (.str n)],⟨_,rfl⟩,rfl,rfl,λ_=>?_⟩
  unfold nF;by_cases h:n=a<;>simp?[h]
section
variable {S:Cs}{m:M}{y:Ly}{n:Nat}{fR:List I}{x x':I}{ci:List L3}{c:L3}
theorem eF.rcd (h:eF S m y)(m1:M)(hp:m1.pl=m.pl)(hl:m1.fH=m.fH):eF ((S.set y.k (.aV (m1.kn.map .str))).set y.a (.fE "Match" (mF m1 y))) m1 y:=by
 obtain⟨a1,a2,a3,a4,a5,a6⟩:=Ug h.nd;have l1:=bB h.a;have l2:=bB h.k;refine⟨cN (by simpa using l1),by rw[dc a1];exact cN l2,by rw[dc a2,dc a4];exact h.p,by rw[dc a3,dc a5,hl];exact h.l,by rw[hp];exact h.len,λj x c h1 h2=>?_,h.nd⟩
 rw[hp] at h1;have hc:=zaR h2
 exact (h.rS j x c h1 h2).only (F:=[y.k,y.a]) ((bH.set (by simp)).trans (bH.set (by simp))) λk hk q=>by
  rcases zap.mp q with rfl|q
  ·exact Hy h.nd (.inr (.inl rfl)) c hc hk
  ·rw[zbs] at q
   subst q;exact Hy h.nd (.inl rfl) c hc hk
theorem eF.amV (h:eF S m y)(e1:m.pl=fR++[x])(e2:y.cs=ci++[c])(e3:ci.length=fR.length)(on:bH (k9 c) S S')(hI:g_ S' x' ⟨c.i,S.length,S.length+1⟩):eF S' (m.lM x') {y with cs:=ci++[⟨c.i,S.length,S.length+1⟩]}:=by
 obtain⟨d,a1,a2,a3,a4,b1,b2,b3,b4,c1,c2,c3,c4⟩:=CM h.nd (c:=c) (by rw[e2];simp)
 have nm:∀j,j≠c.i->j≠c.o->j≠c.s->j∉k9 c:=λj h1 h2 h3 q=>by simp[k9] at q;rcases q with q|q|q;exact h1 q;exact h2 q;exact h3 q
 have ep:(m.lM x').pl=fR++[x']:=by unfold M.lM;simp[e1]
 refine⟨on.at h.a (nm _ a1.symm b1.symm c1.symm),on.at h.k (nm _ a2.symm b2.symm c2.symm),?_,on.at h.l (nm _ a4.symm b4.symm c4.symm),?_,?_,?_⟩
 ·have:=on.at h.p (nm _ a3.symm b3.symm c3.symm)
  rw[e2] at this;rw[this];simp
 ·rw[ep];simp[e3]
 ·intro j z cz h1 h2
  rw[ep] at h1;by_cases hj:j=fR.length
  ·subst hj
   rw[f6] at h1;rw[<-e3,f6] at h2;cases h1;cases h2
   exact hI
  ·have Gn:j<fR.length:=by
    have:=(zae.mp h1).1
    simp at this
    omega
   rw[zaj Gn] at h1;rw[zaj (by omega)] at h2
   have Gb:y.cs[j]? = some cz:=by rw[e2,zaj (by omega)];exact h2
   refine (h.rS j z cz (by rw[e1,zaj Gn];exact h1) Gb).only on (Al (XX h.nd) Gb (k:=fR.length) (by rw[e2,<-e3,f6]) hj)
 ·have jR:=h.lt
  have nd:=h.nd;have f1:fp y=(y.a::y.k::y.p::y.l::ci.flatMap k9++[c.i])++[c.o,c.s]:=by unfold fp;rw[e2];simp[k9]
  have f2:fp {y with cs:=ci++[⟨c.i,S.length,S.length+1⟩]}=(y.a::y.k::y.p::y.l::ci.flatMap k9++[c.i])++[S.length,S.length+1]:=by unfold fp;simp[k9]
  rw[f2];rw[f1] at nd jR;generalize (y.a::y.k::y.p::y.l::ci.flatMap k9++[c.i])=L at *
  refine zcC.mpr ⟨(zcC.mp nd).1,by simp,λj hj k hk=>?_⟩
  have:=jR j (zcg _ hj)
  simp at hk
  omega
noncomputable def wV (m:M)(a b:Str):M:={m with kn:=m.kn++[b],p0:=m.p0.map (nF a b),p1:=m.p1.map (nF a b)}
noncomputable def JA (m:M)(a b:Str):M:=match gR m with|some x=>(wV m a b).lM (x.nF a b)|none=>wV m a b
theorem Uo (h:eF S m y)(z:Sz m n)(hn:n+1<=1000)(a b:Str):
  ∃S' y',G9 [.hd y.a,.str a,.str b] S = .ok .bw S'/\eF S' (JA m a b) y'/\bH (fp y) S S'/\y'.a=y.a/\∀j∈fp y',j∈fp y\/S.length<=j:=by
 have hM:=h.rcd (wV m a b) rfl rfl
 have ha:=h.a;have hk:=h.k;have la:=bB ha;have k1:=fP hM (zai z.pl (by omega))
 obtain⟨a1,_⟩:=Ug h.nd;have hz:(m.kn.length<sizeLine)=True:=kR (by have:=z.kn;omega)
 have w0:=λS=>XZ m.p0 a b S (by have:=z.p0;omega)
 have w1:=λS=>XZ m.p1 a b S (by have:=z.p1;omega)
 have hk2:((wV m a b).kn.map Tr.str)=m.kn.map .str++[.str b]:=by simp[wV]
 have on:bH (fp y) S ((S.set y.k (.aV ((wV m a b).kn.map .str))).set y.a (.fE "Match" (mF (wV m a b) y))):=(bH.set (by simp[fp])).trans (bH.set (by simp[fp]))
 have cJ:((S.set y.k (.aV ((wV m a b).kn.map .str))).set y.a (.fE "Match" (mF (wV m a b) y))).length=S.length:=by simp
 have e0:(S.set y.k (.aV (m.kn.map .str++[.str b])))[y.a]? = some (.fE "Match" (mF m y)):=by rw[dc a1.symm];exact ha
 rw[hk2] at hM k1 on cJ;have hMa:=hM.a;generalize C5:(S.set y.k (.aV (m.kn.map .str++[.str b]))).set y.a (.fE "Match" (mF (wV m a b) y))=S2 at *
 have hgo:gR (wV m a b)=gR m:=rfl
 have hgt:OX (wV m a b) y=OX m y:=rfl
 unfold G9 JA;cases hg:(gR m).isSome
 ·have eg:=f7 h.len hg
  have en:gR m=none:=by
   cases hq:gR m with
   |none=>rfl
   |some x=>rw[hq] at hg;cases hg
  rw[en];rw[hgt,eg] at k1;refine⟨S2,y,?_,hM,on,rfl,λj hj=>.inl hj⟩
  unfold mF wV cQ at *
  simp?[fx,ha,hk,hz,e0,w0,w1,zS,C5,hMa,k1]
 ·obtain⟨fR,x,ci,c,b1,b2,b3,b4,b5,b6⟩:=fK h.len hg
  have hI:=hM.qG (x:=x) b1 b2 b3
  obtain⟨d,_⟩:=CM h.nd (c:=c) (by rw[b2];simp)
  have Ui:x∈m.pl:=by rw[b1];simp
  obtain⟨S3,k2,k3,k4⟩:=O6 hI d a b (zai (z.outs x Ui) (by omega)) (zai (z.gO x Ui) (by omega))
  have hi:=hI.i;rw[b6];rw[hgt,b5] at k1;refine⟨S3,_,?_,eF.amV hM b1 b2 b3 k4 k3,on.trans (k4.mono λj hj=>?_),rfl,λj hj=>?_⟩
  ·unfold mF wV cQ jt at *
   simp?[fx,ha,hk,hz,e0,w0,w1,zS,C5,hMa,k1,hi,k2]
  ·unfold fp
   simp only[zap,zbu];exact .inr (.inr (.inr (.inr ⟨c,by rw[b2];simp,hj⟩)))
  ·rw[cJ] at hj
   simp only[fp,zap,List.flatMap_append,zbW,zdO,List.flatMap_nil,k9,zaC,or_false,b2] at hj ⊢
   rcases hj with q|q|q|q|q|q|q|q
   ·exact .inl (.inl q)
   ·exact .inl (.inr (.inl q))
   ·exact .inl (.inr (.inr (.inl q)))
   ·exact .inl (.inr (.inr (.inr (.inl q))))
   ·exact .inl (.inr (.inr (.inr (.inr (.inl q)))))
   ·exact .inl (.inr (.inr (.inr (.inr (.inr (.inl q))))))
   ·exact .inr (by omega)
   ·exact .inr (by omega)
noncomputable def P8 (m:M):M:={m with clo:=true}
noncomputable def JB (m:M):M:=match gR m with|some x=>(P8 m).lM { x with en:= "closed" } | none=>P8 m
theorem eF.ai0 (h:eF S m y)(m1:M)(hp:m1.pl=m.pl)(hl:m1.fH=m.fH)(hk:m1.kn=m.kn):eF (S.set y.a (.fE "Match" (mF m1 y))) m1 y:=by
 have:=h.rcd m1 hp hl
 rw[hk,ji h.k] at this;exact this
theorem Up (h:eF S m y)(z:Sz m n)(hn:n<=1000):∃S',G_ [.hd y.a] S = .ok .bw S'/\eF S' (JB m) y/\bH (fp y) S S':=by
 have hM:=h.ai0 (P8 m) rfl rfl rfl
 have ha:=h.a;have la:=bB ha;have k1:=fP hM (zai z.pl (by omega))
 have on:bH (fp y) S (S.set y.a (.fE "Match" (mF (P8 m) y))):=bH.set (by simp[fp])
 have hMa:=hM.a;generalize C5:S.set y.a (.fE "Match" (mF (P8 m) y))=S2 at *
 have hgt:OX (P8 m) y=OX m y:=rfl
 unfold G_ JB;cases hg:(gR m).isSome
 ·have eg:=f7 h.len hg
  have en:gR m=none:=by
   cases hq:gR m with
   |none=>rfl
   |some x=>rw[hq] at hg;cases hg
  rw[en];rw[hgt,eg] at k1;refine⟨S2,?_,hM,on⟩
  unfold mF P8 at *
  simp?[fx,ha,C5,hMa,k1]
 ·obtain⟨fR,x,ci,c,b1,b2,b3,b4,b5,b6⟩:=fK h.len hg
  have hI:=hM.qG (x:=x) b1 b2 b3
  obtain⟨d,_⟩:=CM h.nd (c:=c) (by rw[b2];simp)
  have k3:=lI (y:={ x with en:= "closed" }) hI d rfl rfl
  have hi:=hI.i;rw[b6];rw[hgt,b5] at k1;refine⟨_,?_,eF.lM (x':={ x with en:= "closed" }) hM b1 b2 b3,on.trans (bH.j_ λj hj=>?_)⟩
  ·unfold mF P8 jt at *
   simp?[fx,ha,C5,hMa,k1,hi,k3]
  ·unfold fp
   simp only[zap,zbu];exact .inr (.inr (.inr (.inr ⟨c,by rw[b2];simp,hj⟩)))
noncomputable def sA (m:M)(a b:Str):Option Str:=if a∉m.p0++m.p1 then some "team" else if b∈m.kn then some "name" else match gR m with|none=>none|some x=>if x.dg a=true\/a=x.vK then some "there" else none
theorem JC (h:eF S m y)(z:Sz m n)(hn:n<=1000)(a b:Str):GS [.hd y.a,.str a,.str b] S = .ok (dm (sA m a b)) (S++[.aV ((m.p0++m.p1).map .str)]):=by
 unfold GS sA;have k1:=O2 m.t0 m.t1 m.p0 m.p1 z.p0 z.p1 S;have h':eF (S++[.aV ((m.p0++m.p1).map .str)]) m y:=h.only (F:=[]) bH.rJ (by simp)
 have k2:=fP h' (zai z.pl hn)
 have hL:(S++[Ce.aV ((m.p0++m.p1).map .str)])[S.length]? = some (.aV ((m.p0++m.p1).map .str)):=ga0
 generalize S++[.aV ((m.p0++m.p1).map .str)]=S1 at *
 have ha:=h.a;have Ra:=h'.a;have hk':=h'.k;unfold mF at ha Ra;by_cases h1:a∈m.p0++m.p1
 ·by_cases h2:b∈m.kn
  ·simp?[fx,ha,k1,hL,Ra,hk',gb,bQ,f_,h1,h2,dm]
  ·cases hg:(gR m).isSome
   ·have eg:=f7 h.len hg
    have en:gR m=none:=by
     cases hq:gR m with
     |none=>rfl
     |some x=>rw[hq] at hg;cases hg
    simp?[fx,ha,k1,k2,hL,Ra,hk',gb,bQ,f_,h1,h2,en,eg,dm]
   ·obtain⟨fR,x,ci,c,b1,b2,b3,b4,b5,b6⟩:=fK h.len hg
    have hI:=h'.qG b1 b2 b3;have k3:=kh hI a;have hi:=hI.i;unfold jt at hi;have k4:GR [.hd c.i,.str a] S1 = .ok (dm (if x.dg a=true\/a=x.vK then some "there" else none)) S1:=by
     unfold GR;cases h3:x.dg a
     ·by_cases h4:a=x.vK
      ·subst h4;simp?[fx,hi,k3,h3,dm]
      ·simp?[fx,hi,k3,h3,h4,dm]
     ·simp?[fx,hi,k3,h3,dm]
    generalize hr:(if x.dg a=true\/a=x.vK then some ("there" : Str) else none)=r at *
    simp?[fx,ha,k1,k2,hL,Ra,hk',gb,bQ,f_,h1,h2,b5,b6,k4,hr]
 ·simp?[fx,ha,k1,hL,gb,bQ,f_,h1,dm]
noncomputable def Aq (m:M):Int:=match m.pl with|x::_=>x.bW|[]=>0
noncomputable def Uq (m:M):Bool:=if m.pl.length=2/\2 * m.ru.i=4/\m.XR=false then decide (0<m.ru.f/\m.ru.f<=vL m (Aq m)) else false
noncomputable def nG (m:M):Option Str:=if (gR m).isSome=true then some "going" else if Uq m=true then none else some "follow"
theorem ai1 (h:eF S m y)(z:Sz m n)(hn:n<=1000):GU [.hd y.a] S = .ok (.bl (Uq m)) S:=by
 unfold GU Uq;have hs:m.pl.length<=1000:=zai z.pl hn
 have k1:=E4 h;have k2:=λs=>E5 h s hs
 have ha:=h.a;have hp:=h.p;have hz:(y.cs.length<=sizeLine)=True:=bJ (by rw[h.len];omega)
 unfold mF U.t at ha;by_cases h2:m.pl.length=2
 ·have Gb:((y.cs.length:Int)=2)=True:=eq_true (by rw[h.len,h2];rfl)
  by_cases h4:2 * m.ru.i=4
  ·cases hf:m.XR
   ·have cJ:=h.len
    cases hpl:m.pl with
    |nil=>rw[hpl] at h2;cases h2
    |cons x r =>
     cases UR:y.cs with
     |nil=>rw[UR,hpl] at cJ;cases cJ
     |cons c q =>
      have hi:=(h.rS 0 x c (by rw[hpl];rfl) (by rw[UR];rfl)).i
      unfold jt at hi;have hl:Aq m=x.bW:=by unfold Aq;rw[hpl]
      rw[UR] at hp Gb hz;rw[hpl] at h2;rw[zav] at h2 Gb hz;rw[zY] at hp;have Ii:((q.map λc:L3=>Tr.hd c.i).length+1<=sizeLine)=True:=by rw[zaf];exact hz
      have amW:(((q.map λc:L3=>Tr.hd c.i).length+1:Nat):Int)=2:=by rw[zaf];exact of_eq_true Gb
      by_cases h5:0<m.ru.f<;>by_cases h6:m.ru.f<=vL m x.bW <;>
      simp?[fx,ha,hp,hi,hf,k1,k2,h4,h2,hl,hz,Ii,Gb,amW,h5,h6,zav,zaf,Kh,gLe,Kg,hpl]
   ·simp?[fx,ha,hp,hf,k1,h4,h2,hz,Gb,zaf]
  ·simp?[fx,ha,hp,k1,h4,h2,hz,Gb,zaf]
 ·have Gb:((y.cs.length:Int)=2)=False:=eq_false (by rw[h.len];omega)
  simp?[fx,ha,hp,h2,hz,Gb,zaf]
theorem CO (h:eF S m y)(z:Sz m n)(hn:n<=1000):GV [.hd y.a] S = .ok (dm (nG m)) S:=by
 unfold GV nG;have k1:=fP h (zai z.pl hn)
 have k2:=ai1 h z hn;have ha:=h.a;unfold mF at ha;cases hg:(gR m).isSome
 ·have eg:=f7 h.len hg
  cases hm:Uq m<;>simp?[fx,ha,k1,k2,eg,hm,dm]
 ·obtain⟨fR,x,ci,c,b1,b2,b3,b4,b5,b6⟩:=fK h.len hg
  simp?[fx,ha,k1,b5,dm]
end
noncomputable def qI (m:M)(e:gW):Option Str:=if rA m=true then some "done" else match e with
 |.cV t f o b=>mX m t f o b
 |.swap a b=>sA m a b
 |.h_=>nG m
 |.lJ=>none
 |e=>dY m e
noncomputable def Ur (m:M)(s:Int)(f o b:Str):M:={m with pl:=m.pl++[Am s f o b]}
noncomputable def O7 (m:M)(e:gW):M:=match e with
 |.cV t f o b=>Ur m ((Ak m t).getD 0) f o b
 |.swap a b=>JA m a b
 |.h_=>{m with XR:=true}
 |.lJ=>JB m
 |e=>match gR m with|some x=>lU m x e|none=>m
noncomputable def pW (m:M)(e:gW):M:=pV (O7 m e)
theorem B.JD {b:B}{w:Str}(h:b.yD=some w):w.length<=100:=by
 unfold B.yD at h;split at h
 ·cases h;decide +kernel
 ·split at h
  ·cases h
  ·cases h;decide +kernel
theorem gK (h:dY m e=some w):w.length<=100:=by
 unfold dY at h;cases hg:gR m with
 |none=>rw[hg] at h;cases h;decide +kernel
 |some x =>
  rw[hg] at h;cases e with
  |lR b =>
   change x.iZ b=some w at h
   unfold I.iZ at h;repeat' split at h
   all_goals first | (cases h;done) | (cases h;decide +kernel) | (cases h;rename_i q;exact B.JD q)
  |rS k =>
   change x.CJ _ k=some w at h
   unfold I.CJ at h;repeat' split at h
   all_goals first | (cases h;done) | (cases h;decide +kernel)
  |pR k =>
   change x.pT _ _ k=some w at h
   unfold I.pT at h;repeat' split at h
   all_goals first | (cases h;done) | (cases h;decide +kernel)
  |pS k =>
   change (if x.dg k=true then none else some ("who" : Str))=some w at h
   split at h
   ·cases h
   ·cases h;decide +kernel
  |cV _ _ _ _=>cases h
  |swap _ _=>cases h
  |fO=>cases h
  |h_=>cases h
  |lJ=>cases h
theorem O8 (h:qI m e=some w):w.length<=100:=by
 unfold qI at h;split at h
 ·cases h;decide +kernel
 ·cases e with
  |cV t f o b =>
   simp only at h;unfold mX at h
   repeat' split at h
   all_goals first | (cases h;done) | (cases h;decide +kernel)
  |swap a b =>
   simp only at h;unfold sA at h
   repeat' split at h
   all_goals first | (cases h;done) | (cases h;decide +kernel)
  |h_ =>
   simp only at h;unfold nG at h
   repeat' split at h
   all_goals first | (cases h;done) | (cases h;decide +kernel)
  |lJ=>cases h
  |lR b=>exact gK h
  |rS k=>exact gK h
  |pR k=>exact gK h
  |pS k=>exact gK h
  |fO=>exact gK h
section
variable {S:Cs}{m:M}{y:Ly}{n:Nat}
theorem X0 (h:eF S m y)(z:Sz m n)(hn:n<=1000)(e:gW):∃G,rm [.hd y.a,e.t] S = .ok (dm (qI m e)) (S++G):=by
 by_cases hi:e.yF=true
 ·refine⟨[],?_⟩
  rw[CN h z hn e hi,zaw];unfold qI;cases e<;>first|rfl | (cases hi;done)
 ·have k1:=E6 h z hn
  have ha:=h.a;unfold rm qI;unfold mF at ha;cases hd:rA m
  ·cases e with
   |cV t f o b =>
    refine⟨[],?_⟩
    have k2:=E7 h z hn t f o b;unfold gW.t at *
    simp?[fx,ha,k1,hd,k2,zaw]
   |swap a b =>
    refine⟨[.aV ((m.p0++m.p1).map .str)],?_⟩
    have k2:=JC h z hn a b;unfold gW.t at *
    simp?[fx,ha,k1,hd,k2]
   |h_ =>
    refine⟨[],?_⟩
    have k2:=CO h z hn;unfold gW.t at *
    simp?[fx,ha,k1,hd,k2,zaw]
   |lJ =>
    refine⟨[],?_⟩
    unfold gW.t at *
    simp?[fx,ha,k1,hd,zaw,dm]
   |lR _=>exact absurd rfl hi
   |rS _=>exact absurd rfl hi
   |pR _=>exact absurd rfl hi
   |pS _=>exact absurd rfl hi
   |fO=>exact absurd rfl hi
  ·refine⟨[],?_⟩
   simp?[fx,ha,k1,hd,zaw,dm]
theorem Sz.beg (z:Sz m n)(hs:s=0\/s=1)(hn:1<=n+1)(f o b:Str):Sz (Ur m s f o b) (n+1):=by
 have z':=z.mono (zbk n)
 have hm:∀w∈(Ur m s f o b).pl,w∈m.pl\/w=Am s f o b:=λw hw=>by
  rcases zbW.mp (show w∈m.pl++[Am s f o b] from hw) with q|q
  ·exact .inl q
  ·exact .inr (by simpa using q)
 refine⟨?_,z'.kn,z'.fH,z'.p0,z'.p1,λw hw=>?_,λw hw=>?_,λw hw=>?_⟩
 ·show (m.pl++[Am s f o b]).length<=n+1
  have:=z.pl
  simp;exact this
 ·rcases hm w hw with q|rfl
  ·exact z'.outs w q
  ·show 0<=_;omega
 ·rcases hm w hw with q|rfl
  ·exact z'.gO w q
  ·show 1<=_;omega
 ·rcases hm w hw with q|rfl
  ·exact z'.bW w q
  ·exact hs
theorem Hz (hg:gR m=some x):∃fR,m.pl=fR++[x]/\x.en="" := by
 rcases zaV m.pl with h|⟨fR,w,h⟩
 ·unfold gR at hg;rw[h] at hg;cases hg
 ·have h:m.pl=fR++[w]:=by simpa using h
  rw[pU h] at hg;split at hg
  ·cases hg;exact⟨fR,h,by assumption⟩
  ·cases hg
theorem Sz.wV (z:Sz m n)(a b:Str):Sz (wV m a b) (n+1):=by
 have z':=z.mono (zbk n)
 exact⟨z'.pl,by have:=z.kn;simp[My.wV];omega,z'.fH,by have:=z.p0;simpa[My.wV] using this,by have:=z.p1;simpa[My.wV] using this,z'.outs,z'.gO,z'.bW⟩
theorem Sz.sw (z:Sz m n)(a b:Str):Sz (JA m a b) (n+1):=by
 unfold JA;cases hg:gR m with
 |none=>exact z.wV a b
 |some x =>
  obtain⟨fR,e,_⟩:=Hz hg;have hx:x∈m.pl:=by rw[e];simp
  have h1:=z.outs x hx;have h2:=z.gO x hx;exact (z.wV a b).lM (x:=x) (x':=x.nF a b) e rfl (zai O3 (by omega)) (zai O4 (by omega))
theorem Sz.cl (z:Sz m n):Sz (JB m) n:=by
 unfold JB;have zb:Sz (P8 m) n:=⟨z.pl,z.kn,z.fH,z.p0,z.p1,z.outs,z.gO,z.bW⟩
 cases hg:gR m with
 |none=>exact zb
 |some x =>
  obtain⟨fR,e,_⟩:=Hz hg;have hx:x∈m.pl:=by rw[e];simp
  exact zb.lM (x:=x) (x':={ x with en:= "closed" }) e rfl (z.outs x hx) (z.gO x hx)
structure ai2 (S:Cs) (y:Ly) (S':Cs) (m':M) (y':Ly):Prop where
 gX:eF S' m' y'
 on:bH (fp y) S S'
 a:y'.a=y.a
 fp:∀j∈fp y',j∈My.fp y\/S.length<=j
theorem ai3 (h:eF S m y)(z:Sz m n)(hn:n+1<=1000)(e:gW)(hr:qI m e=none):∃S' y',vJ [.hd y.a,e.t] S = .ok .bw S'/\ai2 S y S' (O7 m e) y'/\Sz (O7 m e) (n+1):=by
 have ha:=h.a;unfold mF at ha;have k1:=fP h (zai z.pl (by omega))
 by_cases hi:e.yF=true
 ·have wM:dY m e=none:=by
   unfold qI at hr;split at hr
   ·cases hr
   ·cases e<;>first|exact hr | (cases hi;done)
  unfold dY at wM;cases hg:gR m with
  |none=>rw[hg] at wM;cases wM
  |some x =>
   obtain⟨fR,x2,ci,c,b1,b2,b3,b4,b5,b6⟩:=fK h.len (by rw[hg];rfl)
   rw[hg] at b6;cases b6;obtain⟨S1,k2,k3,k4⟩:=amQ h z (by omega) b1 b2 b3 b4 e hi
   have ed:O7 m e=lU m x e:=by unfold O7;rw[hg];cases e<;>first|rfl | (cases hi;done)
   rw[ed];exact⟨S1,y,k2,⟨k3,k4,rfl,λj hj=>.inl hj⟩,z.lU b1 e⟩
 ·unfold qI at hr
  split at hr
  ·cases hr
  ·unfold vJ
   cases e with
   |cV t f o b =>
    simp only at hr
    unfold mX at hr;split at hr
    ·cases hr
    ·rename_i hgo
     cases hs:Ak m t with
     |none=>rw[hs] at hr;cases hr
     |some s =>
      have k4:=Uj h z (by omega) t f o b s hs
      have hM:=h.aiU s f o b;have ed:O7 m (.cV t f o b)=Ur m s f o b:=by unfold O7;simp only;rw[hs];rfl
      rw[ed];refine⟨_,_,?_,⟨hM,bH.trans bH.rJ (bH.set (by simp[fp])),rfl,λj hj=>?_⟩,z.beg (XW hs) (by omega) f o b⟩
      ·unfold gW.t at *
       simp?[fx,ha,k4,k1]
      ·have UU:fp {y with cs:=y.cs++[jd S.length]}=fp y++[S.length,S.length+1,S.length+2]:=by
        unfold fp;simp[k9,jd]
       rw[UU] at hj;rcases zbW.mp hj with q|q
       ·exact .inl q
       ·simp at q;exact .inr (by omega)
   |swap a b =>
    obtain⟨S',y',k2,k3,k4,k5,k6⟩:=Uo h z hn a b;refine⟨S',y',?_,⟨k3,k4,k5,k6⟩,z.sw a b⟩
    unfold gW.t;simp?[fx,ha,k1,k2]
   |h_ =>
    have hM:=h.ai0 {m with XR:=true} rfl rfl rfl
    refine⟨_,y,?_,⟨hM,bH.set (by simp[fp]),rfl,λj hj=>.inl hj⟩,(show Sz {m with XR:=true} (n+1) from let z':=z.mono (zbk n);⟨z'.pl,z'.kn,z'.fH,z'.p0,z'.p1,z'.outs,z'.gO,z'.bW⟩)⟩
    unfold gW.t mF;simp?[fx,ha,k1]
   |lJ =>
    obtain⟨S',k2,k3,k4⟩:=Up h z (by omega)
    refine⟨S',y,?_,⟨k3,k4,rfl,λj hj=>.inl hj⟩,z.cl.mono (zbk n)⟩
    unfold gW.t;simp?[fx,ha,k1,k2]
   |lR _=>exact absurd rfl hi
   |rS _=>exact absurd rfl hi
   |pR _=>exact absurd rfl hi
   |pS _=>exact absurd rfl hi
   |fO=>exact absurd rfl hi
theorem bH.fresh (a:bH F S S')(b:bH F' S' S'')(h:∀j∈F',j∈F\/S.length<=j):bH F S S'':=⟨zai a.1 b.1,λj h1 h2=>by
 rw[b.2 j (zao h1 a.1) λq=>(h j q).elim h2 λk=>by omega,a.2 j h1 h2]⟩
theorem Us (h:eF S m y)(z:Sz m n)(hn:n+1<=1000)(e:gW)(hr:qI m e=none):∃S' y',rq [.hd y.a,e.t] S = .ok .bw S'/\ai2 S y S' (pW m e) y'/\Sz (pW m e) (n+1):=by
 obtain⟨G,k1⟩:=X0 h z (by omega) e
 rw[hr] at k1;have h0:eF (S++G) m y:=h.only (F:=[]) bH.rJ (by simp)
 obtain⟨S1,y1,k2,k3,k4⟩:=ai3 h0 z hn e hr;obtain⟨S',k5,k6,k7⟩:=E_ h z e.t k1 h0 k3.a k2 k3.gX k4 hn;have k3f:∀j∈fp y1,j∈fp y\/S.length<=j:=λj hj=>(k3.fp j hj).imp id λq=>by rw[zak] at q;omega
 exact⟨S',y1,k5,⟨k6,((bH.rJ (F:=fp y)).trans k3.on).fresh k7 k3f,k3.a,k3f⟩,k4.fL⟩
theorem Ut (h:eF S m y)(z:Sz m n)(hn:n+1<=1000)(e:gW)(w:Str)(hr:qI m e=some w):∃S0,oz S S0/\rq [.hd y.a,e.t] S = .ex S0.length (S0++[.wD "NotLet" [("rule",.str w),("number",.int 0)]]):=by
 obtain⟨G,k1⟩:=X0 h z (by omega) e
 rw[hr] at k1;exact⟨S++G,⟨G,rfl⟩,Jy w (O8 hr) e.t h.a k1⟩
end
theorem Fd {α:Type}{l:List α}{i:Int}(h0:0<=i)(h1:i<l.length):∃x∈l,iS l i=some x:=by
 obtain⟨j,hj⟩:=zbf h0;have Gn:j<l.length:=by omega
 exact⟨l[j],zbA Gn,by rw[hj];exact eZ (zac Gn)⟩
theorem iM {l:List Str}{i:Int}(h0:0<=i)(h1:i<l.length):∃x∈l,iS (l.map Tr.str) i=some (.str x):=by
 obtain⟨t,ht,e⟩:=Fd (l:=l.map Tr.str) h0 (by simpa using h1)
 obtain⟨x,hx,rfl⟩:=zcT.mp ht;exact⟨x,hx,e⟩
theorem Uu {l:List Str}{n m:Int}(hm:m=l.length)(h0:0<m):∃x∈l,iS (l.map Tr.str) (n % m)=some (.str x):=iM (zcy _ (by omega)) (by rw[<-hm];exact zbU _ h0)
noncomputable def vO:List Str:=["bat","bat","bat","bye","leg","wide","no","nobye"]
noncomputable def HA (m:M):Str:=match lK m with|none => "" |some s=>lS m s
structure dU where
 a:Int
 b:Int
 c:Int
 f:Str
 o:Str
 w:Str
 e:B
 q:Str
noncomputable def dU.t (r:dU):Tr:=.tp [.int r.a,.int r.b,.int r.c,.str r.f,.str r.o,.str r.w,r.e.t,.str r.q]
section
variable {S:Cs}{m:M}{y:Ly}{n:Nat}
theorem yJ (h:eF S m y)(z:Sz m n):CB [.hd y.a] S = .ok (cQ m.t0 m.t1 m.p0 m.p1) S:=by
 unfold CB;have ha:=h.a;unfold mF cQ at *
 simp?[fx,ha]
theorem Fe (z:Sz m n):fZ m=0\/fZ m=1:=by
 unfold fZ;cases h:m.pl.getLast? with
 |none=>exact .inl rfl
 |some x=>exact z.bW x (List.mem_of_getLast? h)
theorem adR (z:Sz m n)(e:lK m=some s):s=0\/s=1:=by
 unfold lK at e
 have:=Fe z
 repeat' split at e
 all_goals first | (cases e;done) | (cases e;omega)
theorem adS (h:eF S m y)(z:Sz m n)(hn:n<=1000):yC [.hd y.a] S = .ok (.str (HA m)) S:=by
 unfold yC HA;have k1:=OY h z hn;have ha:=h.a;unfold mF cQ at *
 cases hq:lK m with
 |none=>rw[hq] at k1;simp?[fx,ha,k1,lT]
 |some s =>
  rw[hq] at k1;have k2:=@jq m s (adR z hq)
  simp?[fx,ha,k1,lT,k2]
theorem ai4 (h:eF S m y){rs:List dU}(hr:m.fH=rs.map dU.t):Ho [.hd y.a] S = .ok (.ls m.fH) S:=by
 unfold Ho;have ha:=h.a;have hl:=h.l;unfold mF at ha;refine pD (S1:=S) (t:=.ls m.fH) ?_ (zbr ..) ?_
 ·simp?[fx,ha,hl]
 ·unfold Bp
  have:Tr.az S.length (.ls m.fH)=true:=by
   rw[aav,zaM,hr];intro t ht;obtain⟨r,_,rfl⟩:=zcT.mp ht;unfold dU.t B.t;simp only[Mw,Gj,zG,aau,zaG,zbt,zbi]
  simp only[this];rfl
end
structure Dr (m:M) (d n:Nat):Prop where
 z:Sz m n
 hn:n<=1000
 p0:m.p0.length=d
 p1:m.p1.length=d
 d2:2<=d
 d11:d<=11
 rs:∃rs:List dU,m.fH=rs.map dU.t
noncomputable def EK:gW->Prop|.lR b=>b.k∈vO|_=>True
theorem pX (D:Dr m d n)(s:Int):(iE m s).length=d:=by
 unfold iE;split
 ·exact D.p0
 ·exact D.p1
theorem HB (m:M):(pV m).fH=m.fH:=by unfold pV;split<;>rfl
theorem adT (m:M):(pV m).p0=m.p0:=by unfold pV;split<;>rfl
theorem adU (m:M):(pV m).p1=m.p1:=by unfold pV;split<;>rfl
theorem X3 (m:M)(a b:Str):(JA m a b).p0=m.p0.map (nF a b)/\(JA m a b).p1=m.p1.map (nF a b)/\(JA m a b).fH=m.fH:=by unfold JA;split<;>exact⟨rfl,rfl,rfl⟩
theorem X4 (m:M):(JB m).p0=m.p0/\(JB m).p1=m.p1/\(JB m).fH=m.fH:=by unfold JB;split<;>exact⟨rfl,rfl,rfl⟩
theorem adV (m:M)(x:I)(e:gW):(lU m x e).p0=m.p0/\(lU m x e).p1=m.p1/\((lU m x e).fH=m.fH\/∃b,(lU m x e).fH=m.fH++[iK m x b]):=by
 unfold lU;split
 ·exact⟨rfl,rfl,.inr ⟨_,rfl⟩⟩
 all_goals exact⟨rfl,rfl,.inl rfl⟩
theorem ai5 (m:M)(e:gW):(O7 m e).p0.length=m.p0.length/\(O7 m e).p1.length=m.p1.length/\((O7 m e).fH=m.fH\/∃x b,(O7 m e).fH=m.fH++[iK m x b]):=by
 have Ay:∀e,(match gR m with|some x=>lU m x e|none=>m).p0.length=m.p0.length/\(match gR m with|some x=>lU m x e|none=>m).p1.length=m.p1.length/\((match gR m with|some x=>lU m x e|none=>m).fH=m.fH\/∃x b,(match gR m with|some x=>lU m x e|none=>m).fH=m.fH++[iK m x b]):=λe=>by
  cases gR m with
  |none=>exact⟨rfl,rfl,.inl rfl⟩
  |some x =>
   obtain⟨h1,h2,h3⟩:=adV m x e;exact⟨by simp only[h1],by simp only[h2],h3.imp id λ⟨b,q⟩=>⟨x,b,q⟩⟩
 cases e with
 |cV t f o b=>exact⟨rfl,rfl,.inl rfl⟩
 |swap a b =>
  obtain⟨h1,h2,h3⟩:=X3 m a b;show (JA m a b).p0.length=_/\(JA m a b).p1.length=_/\((JA m a b).fH=_\/∃x c,(JA m a b).fH=m.fH++[iK m x c])
  rw[h1,h2,h3];exact⟨by simp,by simp,.inl rfl⟩
 |h_=>exact⟨rfl,rfl,.inl rfl⟩
 |lJ =>
  obtain⟨h1,h2,h3⟩:=X4 m;show (JB m).p0.length=_/\(JB m).p1.length=_/\((JB m).fH=_\/∃x c,(JB m).fH=m.fH++[iK m x c])
  rw[h1,h2,h3];exact⟨rfl,rfl,.inl rfl⟩
 |lR b=>exact Ay _
 |rS b=>exact Ay _
 |pR b=>exact Ay _
 |pS b=>exact Ay _
 |fO=>exact Ay _
theorem Dr.amX (D:Dr m d n)(e:gW)(z:Sz (pW m e) (n+1))(hn:n+1<=1000):Dr (pW m e) d (n+1):=by
 obtain⟨h1,h2,h3⟩:=ai5 m e;refine⟨z,hn,?_,?_,D.d2,D.d11,?_⟩
 ·unfold pW;rw[adT,h1,D.p0]
 ·unfold pW;rw[adU,h2,D.p1]
 ·unfold pW
  rw[HB];obtain⟨rs,er⟩:=D.rs;rcases h3 with q|⟨x,b,q⟩
  ·exact⟨rs,by rw[q,er]⟩
  ·refine⟨rs++[⟨(m.pl.length:Int) - 1,x.ov,x.ba,x.oH,x.vZ,x.vK,b,x.vY b⟩],?_⟩
   rw[q,er,zaF];rfl
theorem Dr.mono (D:Dr m d n)(h:n<=n')(hn:n'<=1000):Dr m d n':=⟨D.z.mono h,hn,D.p0,D.p1,D.d2,D.d11,D.rs⟩
noncomputable def CQ (c a l n b:Tr):List (dz×Tr):=[(.inr (Str.ofString "cells"),c),(.inr (Str.ofString "at"),a),(.inr (Str.ofString "left"),l),(.inr (Str.ofString "number"),n),(.inr (Str.ofString "digits"),b)]
section
variable {c a l n b t:Tr}
theorem O9:aP (.inr (Str.ofString "cells")) (CQ c a l n b)=some c:=by kernel_rfl
theorem O_:aP (.inr (Str.ofString "at")) (CQ c a l n b)=some a:=by kernel_rfl
theorem Pa:aP (.inr (Str.ofString "left")) (CQ c a l n b)=some l:=by kernel_rfl
theorem Pb:aP (.inr (Str.ofString "number")) (CQ c a l n b)=some n:=by kernel_rfl
theorem Pc:aP (.inr (Str.ofString "digits")) (CQ c a l n b)=some b:=by kernel_rfl
theorem Pd:jf (CQ c a l n b) (.inr (Str.ofString "at")) t=CQ c t l n b:=by kernel_rfl
theorem Pe:jf (CQ c a l n b) (.inr (Str.ofString "left")) t=CQ c a t n b:=by kernel_rfl
theorem Pf:jf (CQ c a l n b) (.inr (Str.ofString "number")) t=CQ c a l t b:=by kernel_rfl
theorem Ar:((CQ c a l n b).length<sizeLine)=True:=eq_true (by show 5<sizeLine;decide)
theorem HC:eB [] [(.inr (Str.ofString "cells"),c),(.inr (Str.ofString "at"),a),(.inr (Str.ofString "left"),l),(.inr (Str.ofString "number"),n),(.inr (Str.ofString "digits"),b)]=CQ c a l n b:=by kernel_rfl
end
noncomputable def cD (S:Cs)(d k:Nat):Prop:=∃(cs:List Int) (a l n:Int) (b:Bool),S[d]? = some (.gQ (CQ (.ls (cs.map .int)) (.int a) (.int l) (.int n) (.bl b)))/\cs≠[]/\cs.length<=1000/\0<=a/\a<=k
theorem cD.mono (h:cD S d k)(hk:k<=j):cD S d j:=by
 obtain⟨cs,a,l,n,b,h1,h2,h3,h4,h5⟩:=h;exact⟨cs,a,l,n,b,h1,h2,h3,h4,by omega⟩
theorem cD.lt (h:cD S d k):d<S.length:=by
 obtain⟨cs,a,l,n,b,h1,_⟩:=h;exact Es h1
theorem cD.rJ (h:cD S d k)(X:Cs):cD (S++X) d k:=by
 obtain⟨cs,a,l,n,b,h1,h2⟩:=h;exact⟨cs,a,l,n,b,pJ h1 X,h2⟩
theorem cD.amY (h:cD S d k)(hi:i≠d)(c:Ce):cD (S.set i c) d k:=by
 obtain⟨cs,a,l,n,b,h1,h2⟩:=h;exact⟨cs,a,l,n,b,Et h1 hi,h2⟩
theorem adW (h:cD S d k)(hk:k<1000000)(h0:0<many)(h1:many<1000000):∃(v:Int) (c:Ce),0<=v/\v<many/\bM [.hd d,.int many] S = .ok (.int v) (S.set d c)/\cD (S.set d c) d (k+1):=by
 obtain⟨cs,a,l,n,b,hd,qj,hl,ha,hak⟩:=h;have hs:∀c,(S.set d c)[d]? = some c:=λc=>ug (Es hd)
 have c1:(0<many)=True:=eq_true h0
 have c2:(many<1073741824)=True:=eq_true (by omega)
 have afY:=List.length_pos_iff.mpr qj;have c3:((0:Int)<(cs.length:Int))=True:=eq_true (by omega)
 have c4:(cs.length<=sizeLine)=True:=bJ (by omega)
 have e1:Str.ofString "cells"=Str.ofString "cells" := rfl
 obtain⟨x,hx⟩:∃x,iS (cs.map Tr.int) ((a+1) % (cs.length:Int))=some (.int x):=by
  obtain⟨t,ht,e⟩:=Gm (l:=cs.map Tr.int) (n:=a+1) (m:=(cs.length:Int)) (by simp) (by omega)
  obtain⟨x,_,rfl⟩:=zcT.mp ht;exact⟨x,e⟩
 unfold bM;cases b with
 |true =>
  by_cases U7:l - 1=0
  ·refine⟨n % many,_,zcy _ (by omega),zbU _ h0,by simp?[hd,hs,O9,O_,Pa,Pb,Pc,Pd,Pe,Pf,Ar,c1,c2,c3,c4,U7,hx,zea];rfl,cs,a+1,_,_,true,hs _,qj,hl,by omega,by omega⟩
  ·refine⟨n % many,_,zcy _ (by omega),zbU _ h0,by simp?[hd,hs,O9,O_,Pa,Pb,Pc,Pd,Pe,Pf,Ar,c1,c2,c3,c4,U7,hx,zea];rfl,cs,a,_,_,true,hs _,qj,hl,by omega,by omega⟩
 |false =>
  generalize hy:(x % 2147483629+(a+1) * (a+1) * 7919+11) * 48271 % 2147483647=y
  have hy0:0<=y:=by rw[<-hy];exact zcy _ (by decide)
  have hy1:y<2147483647:=by rw[<-hy];exact zbU _ (by decide)
  refine⟨y * y % 1999999973 / 7 % many,.gQ (CQ (.ls (cs.map .int)) (.int (a+1)) (.int l) (.int n) (.bl false)),zcy _ (by omega),zbU _ h0,?_,cs,a+1,_,_,false,hs _,qj,hl,by omega,by omega⟩
  simp?[hd,hs,O9,O_,Pa,Pb,Pc,Pd,Pe,Pf,Ar,c1,c2,c3,c4,hx,zea];rw[zl (by omega),hy,zl (by omega)]
theorem Uv:(Tr.ls []).qu=true:=by
 unfold Tr.qu Tr.o_;rfl
theorem Pg:(Tr.ls []).dp<=50/\(Tr.ls []).dp≠0:=by
 unfold Tr.dp Tr.C6;decide
theorem adX (h:vw 6 S t = .ls [])(hs:L8 t (.ls [])=none):cE neg t (.ls []) S = .ok (.bl (!neg)) S:=by
 have e:vw 6 S (.ls []) = .ls []:=rfl
 have hc:vw 6 S t=vw 6 S (.ls [])/\(vw 6 S t).qu=true/\(vw 6 S t).dp<=50/\(vw 6 S t).dp≠0:=by
  rw[h,e];exact⟨rfl,Uv,Pg.1,Pg.2⟩
 unfold cE;rw[hs];exact if_pos hc
theorem adY:Bx neg (.kl l) (.ls []) S = .ok (.bl (if neg=true then !l.isEmpty else l.isEmpty)) S:=by
 unfold Bx;show (if l.length=0 then _ else _)=_
 cases l with
 |nil =>
  rw[if_pos (show ([]:List Tr).length=0 from rfl),adX rfl rfl]
  cases neg<;>rfl
 |cons x r =>
  rw[if_neg (by simp)]
  cases neg<;>rfl
theorem Uw (ns:List Int)(Il:ns.length<=63)(S:Cs):∃c,Cr [.kl (ns.map .int)] S = .ok (.hd S.length) (S++[c])/\cD (S++[c]) S.length 0:=by
 unfold Cr;have e2:=λS=>adY (neg:=false) (l:=ns.map Tr.int) (S:=S)
 have X5:=xM S []
 have X6:=λc=>zF S (Ce.gQ []) c
 have hl0:=zak (as:=S) (bs:=[Ce.gQ []])
 cases ns with
 |nil =>
  have c1:(0+1<=sizeLine)=True:=bJ (by omega)
  have er:MW (.ls [.int 0]) (.int 1) S = .ok (.ls [.int 0]) S:=by kernel_rfl
  have ei:tT [.bl true] S = .ok (.int 1) S:=rfl
  have e3:Bx false (.kl []) (.ls []) S = .ok (.bl true) S:=e2 S
  refine⟨.gQ (CQ (.ls ([0].map .int)) (.int 0) (.int 60) (.int (0 / 2)) (.bl (decide ((0:Int) % 2=0)))),?_,[0],0,60,0 / 2,_,ie _ _,by simp,by simp,by omega,by omega⟩
  simp?[↓e3,↓er,↓ei,HC,X5,X6]
 |cons x r =>
  have e3:Bx false (.kl ((x::r).map .int)) (.ls []) S = .ok (.bl false) S:=e2 S
  simp only[zY] at e3;have er:MW (.ls [.int 0]) (.int 0) S = .ok (.ls []) S:=by kernel_rfl
  have ei:tT [.bl false] S = .ok (.int 0) S:=rfl
  have hl:r.length+1<=63:=by simpa using Il
  have c1:(r.length+1<=sizeLine)=True:=bJ (by omega)
  have c2:(r.length+1+0<=sizeLine)=True:=bJ (by omega)
  refine⟨.gQ (CQ (.ls ((x::r).map .int)) (.int 0) (.int 60) (.int (x / 2)) (.bl (decide (x % 2=0)))),?_,x::r,0,60,x / 2,_,ie _ _,by simp,by simp;omega,by omega,by omega⟩
  simp?[↓e3,↓er,↓ei,c1,c2,HC,X5,X6,zaw]
structure Dk (S S':Cs) (d k:Nat):Prop where
 on:bH [d] S S'
 gX:cD S' d k
theorem Dk.tr (a:Dk S S1 d k)(b:Dk S1 S2 d k'):Dk S S2 d k':=⟨a.on.trans b.on,b.gX⟩
theorem Dk.mono (a:Dk S S' d k)(h:k<=k'):Dk S S' d k':=⟨a.on,a.gX.mono h⟩
theorem Dk.get (a:Dk S S' d k)(h:S[j]? = some c)(hj:j≠d):S'[j]? = some c:=a.on.at h (by simpa using hj)
theorem d7 (h:cD S d k)(hk:k<900000)(h0:0<many)(h1:many<1000000):∃(v:Int) (S':Cs),0<=v/\v<many/\bM [.hd d,.int many] S = .ok (.int v) S'/\Dk S S' d (k+1):=by
 obtain⟨v,c,v0,v1,e,hD⟩:=adW h (by omega) h0 h1
 exact⟨v,S.set d c,v0,v1,e,⟨bH.set (by simp),hD⟩⟩
theorem Ph (h:cD S d k)(hk:k<800000):∃(u:U) (S':Cs),GN [.hd d] S = .ok u.t S'/\Dk S S' d (k+12)/\2<=u.d/\u.d<=11:=by
 obtain⟨a1,S1,l1,m1,e1,D1⟩:=d7 h (by omega) (many:=6) (by decide) (by decide)
 obtain⟨a2,S2,l2,m2,e2,D2⟩:=d7 D1.gX (by omega) (many:=5) (by decide) (by decide)
 obtain⟨a3,S3,l3,m3,e3,D3⟩:=d7 D2.gX (by omega) (many:=3) (by decide) (by decide)
 obtain⟨a4,S4,l4,m4,e4,D4⟩:=d7 D3.gX (by omega) (many:=3) (by decide) (by decide)
 obtain⟨a5,S5,l5,m5,e5,D5⟩:=d7 D4.gX (by omega) (many:=3) (by decide) (by decide)
 have D05:Dk S S5 d (k+5):=(((D1.tr D2).tr D3).tr D4).tr D5
 have hd5:=D5.gX.lt;obtain⟨S6,hS6⟩:∃S6,S6=S5++[Ce.aV [.int (1+a1),.int a2,.int a3,.int a4,.int a5]]:=⟨_,rfl⟩
 have c6:S6[S5.length]? = some (.aV [.int (1+a1),.int a2,.int a3,.int a4,.int a5]):=by rw[hS6];exact ie _ _
 have D06:Dk S S6 d (k+5):=by rw[hS6];exact⟨D05.on.trans bH.rJ,D05.gX.rJ _⟩
 obtain⟨a6,S7,l6,m6,e6,D7⟩:=d7 D06.gX (by omega) (many:=4) (by decide) (by decide)
 have c7:=D7.get c6 (by omega)
 have D07:=D06.tr D7;have key:∃(x4 x5:Int) (S8:Cs),(Dk S S8 d (k+8))/\S8[S5.length]? = some (.aV [.int (1+a1),.int a2,.int a3,.int x4,.int x5])/\(∀ τ,τ=[some (Tr.hd d),some (.hd S5.length),none]->(cF (mB (ai (cE false) (dR 2 bM (af (aa 0) (af (mC (.int 4)) aj))) (mC (.int 0)))) (Eb (jH (af (dR 2 bM (af (aa 0) (af (mC (.int 10)) aj))) (af (dR 2 bM (af (aa 0) (af (mC (.int 10)) aj))) aj))) (M4 (aa 1) (mC (.int 3)) (mC (.int 5)))) aB) τ S6 = .nx τ S8):=by
  by_cases q:a6=0
  ·obtain⟨b1,T1,n1,p1,f1,E1⟩:=d7 D07.gX (by omega) (many:=10) (by decide) (by decide)
   obtain⟨b2,T2,n2,p2,f2,E2⟩:=d7 E1.gX (by omega) (many:=10) (by decide) (by decide)
   have c8:=E2.get (E1.get c7 (by omega)) (by omega)
   refine⟨b1,b2,T2.set S5.length (.aV [.int (1+a1),.int a2,.int a3,.int b1,.int b2]),?_,ug (Es c8),?_⟩
   ·have D:=(D07.tr E1).tr E2
    exact⟨D.on.fresh (F':=[S5.length]) (bH.set (by simp)) (λj hj=>by rw[zbs] at hj;subst hj;exact .inr D05.on.1),(D.gX.amY (by omega) _).mono (by omega)⟩
   ·rintro τ rfl
    have hz:(5+2<=sizeLine)=True:=bJ (by decide)
    simp?[e6,q,f1,f2,M4,c8,hz,List.take_succ_cons,List.take_zero,List.drop_succ_cons,List.drop_nil,List.drop_zero,zbP,zaX]
  ·refine⟨a4,a5,S7,D07.mono (by omega),c7,?_⟩
   rintro τ rfl
   simp?[e6,q]
 obtain⟨x4,x5,S8,D8,c8,f8⟩:=key;have f8:=f8 _ rfl;generalize hI:cF (mB (ai (cE false) (dR 2 bM (af (aa 0) (af (mC (.int 4)) aj))) (mC (.int 0)))) (Eb (jH (af (dR 2 bM (af (aa 0) (af (mC (.int 10)) aj))) (af (dR 2 bM (af (aa 0) (af (mC (.int 10)) aj))) aj))) (M4 (aa 1) (mC (.int 3)) (mC (.int 5)))) aB=IF at *
 obtain⟨a7,S9,l7,m7,e7,D9⟩:=d7 D8.gX (by omega) (many:=4) (by decide) (by decide)
 obtain⟨a8,S10,l8,m8,e8,D10⟩:=d7 D9.gX (by omega) (many:=8) (by decide) (by decide)
 obtain⟨a9,S11,l9,m9,e9,D11⟩:=d7 D10.gX (by omega) (many:=2) (by decide) (by decide)
 obtain⟨AY,S12,l10,m10,e10,D12⟩:=d7 D11.gX (by omega) (many:=2) (by decide) (by decide)
 have c12:=D12.get (D11.get (D10.get (D9.get c8 (by omega)) (by omega)) (by omega)) (by omega)
 have hat:∃sd:Int,2<=sd/\sd<=11/\iS [Tr.int (2+a7),.int 11] (if a8=0 then 1 else 0)=some (.int sd):=by
  by_cases q:a8=0
  ·exact⟨11,by decide,by decide,by rw[if_pos q];rfl⟩
  ·exact⟨2+a7,by omega,by omega,by rw[if_neg q];rfl⟩
 obtain⟨sd,s2,s11,hat⟩:=hat;refine⟨⟨1+a1,a2,a3,x4,x5,sd,1+a9,AY * 5⟩,S12,?_,(((((D8.tr D9).tr D10).tr D11).tr D12)).mono (by omega),s2,s11⟩
 unfold GN U.t;rw[hI];have hz:(5+3<=sizeLine)=True:=bJ (by decide)
 have gt:∀(l:List Tr) (S:Cs),mK [.ls l] S = .ok (.tp l) S:=λ_ _=>rfl
 simp?[e1,e2,e3,e4,e5,<-hS6,f8,e7,e8,e9,e10,c12,hat,hz,gt]
noncomputable def JE:Str:= "abcdfghjklmp"
theorem Ux (i:Int):∃c,iS JE.cps.toList (i % 12)=some c:=by
 obtain⟨c,_,e⟩:=Gm (l:=JE.cps.toList) (n:=i) (m:=12) (by decide +kernel) (by decide)
 exact⟨c,e⟩
theorem ai6 {v:Int}(h0:0<=v)(h1:v<3):(o4 (Str.ofString "t") (1+v).toNat).length<=9/\(Str.ofString "t").length * (1+v).toNat<=1000000:=by
 have h:∀n:Fin 5,(o4 (Str.ofString "t") n).length<=9:=by decide +kernel
 have e:(Str.ofString "t").length=1:=by decide +kernel
 exact⟨h ⟨(1+v).toNat,by omega⟩,by rw[e];omega⟩
theorem ai7 {v:Int}(h0:0<=v)(h1:v<3):(o4 (Str.ofString "v") v.toNat).length<=9/\(Str.ofString "v").length * v.toNat<=1000000:=by
 have h:∀n:Fin 5,(o4 (Str.ofString "v") n).length<=9:=by decide +kernel
 have e:(Str.ofString "v").length=1:=by decide +kernel
 exact⟨h ⟨v.toNat,by omega⟩,by rw[e];omega⟩
theorem Pj {S:Cs}{d k:Nat}(h:cD S d k)(hk:k<700000)(sd:Nat)(h2:2<=sd)(h11:sd<=11):∃(t0 t1:Str) (p0 p1:List Str) (S':Cs),GP [.hd d,.int sd] S = .ok (cQ t0 t1 p0 p1) S'/\Dk S S' d (k+30)/\p0.length=sd/\p1.length=sd:=by
 obtain⟨a1,S1,l1,m1,e1,D1⟩:=d7 h (by omega) (many:=12) (by decide) (by decide)
 have hr:(-4611686018427387904<=(sd:Int)/\(sd:Int)<4611686018427387904)=True:=eq_true (by omega)
 have hL:JE.length=12:=by decide +kernel
 have hat:=Ux;unfold GP;rw[show Str.ofString "abcdfghjklmp"=JE from rfl];have hLl:(JE.length<=sizeLine)=True:=bJ (by rw[hL];decide)
 have hv1:(Str.ofString "v").length=1:=by decide +kernel
 generalize JE=L at *
 simp?[e1,hr,zbm];generalize hZ:cS _ _ _ _ _ _ _ _=Z
 obtain⟨e_,am5,S2,⟨_,⟨p0,rfl,lp0⟩,D2⟩,rfl⟩:=nj hZ (λi τ bO S'=>(∃v,τ=[some (.str L),some (.hd d),some (.int a1),v])/\(∃p:List Str,bO=p.map .str/\p.length=i)/\Dk S S' d (k+1+i)) (λ_ _ _ _ _=>trivial) ⟨⟨_,rfl⟩,⟨[],rfl,rfl⟩,D1⟩ (by rw[mQ];omega) (by
  rintro i t τ bO S' ht ⟨⟨v,rfl⟩,⟨p,rfl,lp⟩,D⟩
  obtain⟨jR,rfl⟩:=t9 ht;obtain⟨b,S3,b0,b1,eb,Db⟩:=d7 D.gX (by omega) (many:=3) (by decide) (by decide)
  obtain⟨c,ec⟩:=hat (a1+(i:Int))
  obtain⟨r1,r2⟩:=ai6 b0 b1;have c1:(0<=1+b)=True:=eq_true (by omega)
  have c2:(1+b<1000000)=True:=eq_true (by omega)
  have c3:((Str.ofString "t").length * (1+b).toNat<=1000000)=True:=eq_true r2
  generalize hR:o4 (Str.ofString "t") (1+b).toNat=R1 at *
  have c4:(R1.length+1<=sizeLine)=True:=bJ (by omega)
  refine⟨[some (.str L),some (.hd d),some (.int a1),some (.int (0+(i:Int)))],.str (R1++⟨#[c]⟩),S3,rfl,?_,⟨_,rfl⟩,⟨p++[R1++⟨#[c]⟩],by simp,by simp[lp]⟩,(D.tr Db).mono (by omega)⟩
  simp?[eb,ec,hLl,c1,c2,c3,c4,Aj,hR])
 rw[mQ] at lp0 D2;simp?[hr,zbm];generalize hZ:cS _ _ _ _ _ _ _ _=Z
 obtain⟨e_,am5,S3,⟨_,⟨p1,rfl,lp1⟩,D3⟩,rfl⟩:=nj hZ (λi τ bO S'=>(∃v,τ=[some (.str L),some (.hd d),some (.int a1),v])/\(∃p:List Str,bO=p.map .str/\p.length=i)/\Dk S S' d (k+1+sd+i)) (λ_ _ _ _ _=>trivial) ⟨⟨_,rfl⟩,⟨[],rfl,rfl⟩,D2⟩ (by rw[mQ];omega) (by
  rintro i t τ bO S' ht ⟨⟨v,rfl⟩,⟨p,rfl,lp⟩,D⟩
  obtain⟨jR,rfl⟩:=t9 ht;obtain⟨b,S3,b0,b1,eb,Db⟩:=d7 D.gX (by omega) (many:=3) (by decide) (by decide)
  obtain⟨c,ec⟩:=hat (a1+(i:Int))
  obtain⟨r1,r2⟩:=ai7 b0 b1;have c1:(0<=b)=True:=eq_true (by omega)
  have c2:(b<1000000)=True:=eq_true (by omega)
  have c3:((Str.ofString "v").length * b.toNat<=1000000)=True:=eq_true r2
  generalize hR:o4 (Str.ofString "v") b.toNat=R1 at *
  have c4:(1+1+R1.length<=sizeLine)=True:=bJ (by omega)
  have c5:(1+1<=sizeLine)=True:=bJ (by decide)
  rw[hv1] at c3;refine⟨[some (.str L),some (.hd d),some (.int a1),some (.int (0+(i:Int)))],.str (Str.ofString "v"++⟨#[c]⟩++R1),S3,rfl,?_,⟨_,rfl⟩,⟨p++[Str.ofString "v"++⟨#[c]⟩++R1],by simp,by simp[lp]⟩,(D.tr Db).mono (by omega)⟩
  simp?[eb,ec,hLl,c1,c2,c3,c4,c5,Aj,TR,hv1,hR])
 rw[mQ] at lp1 D3;obtain⟨a2,S4,l2,m2,e2,D4⟩:=d7 D3.gX (by omega) (many:=2) (by decide) (by decide)
 obtain⟨x,_,ex⟩:=iM (l:=p0) (i:=0) (by decide) (by omega)
 obtain⟨y,p1',hy⟩:∃y p',p1=p'++[y]:=by
  rcases zaV p1 with q|⟨p',y,q⟩
  ·rw[q] at lp1;simp at lp1;omega
  ·exact⟨y,p',by rw[q,zcb]⟩
 have ey:iS (p1.map Tr.str) (-1)=some (.str y):=by rw[hy,zaF];exact jo _ _
 by_cases q:a2=0
 ·refine⟨Str.ofString "tz",y,p0,p1,S4,?_,(D3.tr D4).mono (by omega),lp0,lp1⟩
  unfold cQ;simp?[e2,q,ex,ey,rK]
 ·refine⟨x,Str.ofString "vx",p0,p1,S4,?_,(D3.tr D4).mono (by omega),lp0,lp1⟩
  unfold cQ;simp?[e2,q,ex]
theorem HD (h:cD S d k)(hk:k<700000)(f o:Str):∃(b:B) (S':Cs),Hi [.hd d,.ls [.str f,.str o]] S = .ok b.t S'/\Dk S S' d (k+5)/\b.k∈vO:=by
 obtain⟨a1,S1,l1,m1,e1,D1⟩:=d7 h (by omega) (many:=8) (by decide) (by decide)
 obtain⟨a2,S2,l2,m2,e2,D2⟩:=d7 D1.gX (by omega) (many:=12) (by decide) (by decide)
 obtain⟨a3,S3,l3,m3,e3,D3⟩:=d7 D2.gX (by omega) (many:=9) (by decide) (by decide)
 have Uy:=(D1.tr D2).tr D3
 obtain⟨kd,hkd,ek⟩:=iM (l:=vO) (i:=a1) l1 m1
 obtain⟨t,ht,er⟩:=Fd (l:=[Tr.int 0,.int 0,.int 1,.int 1,.int 2,.int 3,.int 4,.int 4,.int 6,.int 6,.int 5,.int 9]) (i:=a2) l2 m2
 obtain⟨r,rfl⟩:∃r,t = .int r:=by
  simp only[zap,zaC,or_false] at ht;rcases ht with rfl|rfl|rfl|rfl|rfl|rfl|rfl|rfl|rfl|rfl|rfl|rfl<;>exact⟨_,rfl⟩
 have ek':iS [Tr.str "bat",.str "bat",.str "bat",.str "bye",.str "leg",.str "wide",.str "no",.str "nobye"] a1=some (.str kd):=ek
 unfold Hi;simp?[e1,e2,e3,ek',er];clear e1 e2 e3 ek ek' er ht
 by_cases q0:a3=0
 ·obtain⟨a4,S4,l4,m4,e4,D4⟩:=d7 Uy.gX (by omega) (many:=2) (by decide) (by decide)
  obtain⟨a5,S5,l5,m5,e5,D5⟩:=d7 D4.gX (by omega) (many:=2) (by decide) (by decide)
  obtain⟨w,_,ew⟩:=iM (l:=[f,o]) (i:=a4) l4 m4
  obtain⟨en,_,ee⟩:=iM (l:=["strike","other"]) (i:=a5) l5 m5
  simp only[zY,zaI] at ew ee;refine⟨⟨kd,r,false,"run",w,en⟩,S5,?_,((Uy.tr D4).tr D5).mono (by omega),hkd⟩
  unfold B.t;simp?[q0,e4,e5,ew,ee]
 ·by_cases q1:a3=1/\kd="bat"
  ·obtain⟨a4,S4,l4,m4,e4,D4⟩:=d7 Uy.gX (by omega) (many:=5) (by decide) (by decide)
   obtain⟨w,_,ew⟩:=iM (l:=["bowled","caught","before","stumped","hit"]) (i:=a4) l4 m4
   simp only[zY,zaI] at ew;refine⟨⟨kd,0,false,w,"",""⟩,S4,?_,(Uy.tr D4).mono (by omega),hkd⟩
   obtain⟨q1,q2⟩:=q1;subst q2;unfold B.t;simp?[q1,e4,ew]
  ·by_cases q2:a3=1/\kd="wide"
   ·obtain⟨a4,S4,l4,m4,e4,D4⟩:=d7 Uy.gX (by omega) (many:=2) (by decide) (by decide)
    obtain⟨w,_,ew⟩:=iM (l:=["stumped","hit"]) (i:=a4) l4 m4
    simp only[zY,zaI] at ew;refine⟨⟨kd,0,false,w,"",""⟩,S4,?_,(Uy.tr D4).mono (by omega),hkd⟩
    obtain⟨q2,q3⟩:=q2;subst q3;have nwb:¬ (Str.ofString "wide"=Str.ofString "bat"):=by decide +kernel
    unfold B.t;simp?[q2,e4,ew,nwb]
   ·obtain⟨a4,S4,l4,m4,e4,D4⟩:=d7 Uy.gX (by omega) (many:=4) (by decide) (by decide)
    generalize hO:U_ _ _=O
    have hR:∃ ρ:Bool,∀x0 x1 x4 x5,O [x0,x1,some (.str kd),some (.int r),x4,x5] S3 = .ok (.bl ρ) S3:=by
     subst hO;by_cases r4:r=4
     ·exact⟨true,λx0 x1 x4 x5=>by simp?[r4,U_,kK]⟩
     ·by_cases r6:r=6
      ·refine⟨decide (kd="bat" \/ kd="no"),λx0 x1 x4 x5=>?_⟩
       simp?[r4,r6,U_,kK,P_,bQ,zaG,zbt,zbi]
      ·exact⟨false,λx0 x1 x4 x5=>by simp?[r4,r6,U_,kK]⟩
    obtain⟨ρ,hR⟩:=hR;have am7:∀(ρ:Bool),(∀x0 x1 x4 x5,O [x0,x1,some (.str kd),some (.int r),x4,x5] S3 = .ok (.bl ρ) S3)->∃(c:Bool) (S':Cs),Dk S S' d (k+5)/\(ao (aR 5 O) (aE (dO (af (mC (.str "ball")) (af (aa 2) (af (aa 3) (af (kK (aa 5) (ai Z5 (dR 2 bM (af (aa 0) (af (mC (.int 4)) aj))) (mC (.int 0)))) (af (mC (.str "")) (af (mC (.str "")) (af (mC (.str "")) aj)))))))))) [some (.hd d),some (.ls [.str f,.str o]),some (.str kd),some (.int r),some (.int a3),none] S3 = .rt (B.t ⟨kd,r,c,"","",""⟩) S':=λρ hR=>by
     unfold B.t;cases ρ with
     |true=>exact⟨decide (0<a4),S4,(Uy.tr D4).mono (by omega),by simp?[hR,kK,e4,Z5,Kg]⟩
     |false=>exact⟨false,S3,Uy.mono (by omega),by simp?[hR,kK]⟩
    obtain⟨c,S',Dx,hx⟩:=am7 ρ hR;refine⟨⟨kd,r,c,"","",""⟩,S',?_,Dx,hkd⟩
    generalize hK:ao (aR 5 O) _=K at *
    by_cases q3:a3=1
    ·have k1:¬ kd="bat" := λz=>q1 ⟨q3,z⟩
     have k2:¬ kd="wide" := λz=>q2 ⟨q3,z⟩
     subst q3;simp?[k1,k2,hx]
    ·simp?[q0,q3,hx]
section
variable {S:Cs}{m:M}{y:Ly}{d k n dd:Nat}
theorem Dk.mat (h:eF S m y)(D:Dk S S' d k)(hd:d∉fp y):eF S' m y:=h.only D.on λj hj q=>by rw[zbs] at q;subst q;exact hd hj
theorem Ff (h:eF S m y)(D:Dr m dd n)(hD:cD S d k)(hk:k<600000)(hd:d∉fp y):∃(e:gW) (S':Cs),Hh [.hd d,.hd y.a] S = .ok e.t S'/\Dk S S' d (k+5)/\EK e:=by
 have hpl:=yJ h D.z;have ha:=h.a;obtain⟨a1,S1,l1,m1,e1,D1⟩:=d7 hD (by omega) (many:=4) (by decide) (by decide)
 unfold mF at ha;unfold Hh;by_cases q1:a1=0
 ·refine⟨.h_,S1,?_,D1.mono (by omega),trivial⟩
  generalize cQ m.t0 m.t1 m.p0 m.p1=sT at *
  simp?[fx,ha,hpl,e1,q1,gW.t]
 ·obtain⟨a2,S2,l2,m2,e2,D2⟩:=d7 D1.gX (by omega) (many:=2) (by decide) (by decide)
  have D02:=D1.tr D2;have h2:=D02.mat h hd;have ht:=adS h2 D.z D.hn;have P1:=h2.a;unfold mF at P1;generalize hI:cF (mB (ai (cE true) (aN "Match" "turn" 1 yC (aa 1) aj) (mC (.str "")))) _ _=IF
  have key:∃j:Int,(j=0\/j=1)/\IF [some (.hd d),some (.hd y.a),some (cQ m.t0 m.t1 m.p0 m.p1),some (.int a2),none,none,none] S2 = .nx [some (.hd d),some (.hd y.a),some (cQ m.t0 m.t1 m.p0 m.p1),some (.int j),none,none,none] S2:=by
   subst hI;by_cases q:HA m=""
   ·exact⟨a2,by omega,by simp?[fx,P1,ht,q]⟩
   ·by_cases q2:HA m=m.t1
    ·refine⟨1,.inr rfl,?_⟩
     rw[q2] at ht q;unfold cQ;simp?[fx,P1,ht,q]
    ·refine⟨0,.inl rfl,?_⟩
     unfold cQ;simp?[fx,P1,ht,q,q2]
  obtain⟨j,j01,hIF⟩:=key;have s1:=@jq m j j01
  have s2:=@jq m (1 - j) (by omega)
  have p1:=pX D j;have p2:=pX D (1 - j)
  have d2:=D.d2;have d11:=D.d11;generalize lS m j=tj at *
  generalize lS m (1 - j)=tk at *
  generalize iE m j=A at *
  generalize iE m (1 - j)=B at *
  obtain⟨a3,S3,l3,m3,e3,D3⟩:=d7 D02.gX (by omega) (many:=(A.length:Int)) (by omega) (by omega)
  obtain⟨a4,S4,l4,m4,e4,D4⟩:=d7 D3.gX (by omega) (many:=(B.length:Int)) (by omega) (by omega)
  obtain⟨x1,_,f1⟩:=iM (l:=A) (i:=a3) l3 m3
  obtain⟨x2,_,f2⟩:=Uu (l:=A) (n:=a3+1) (m:=(A.length:Int)) rfl (by omega)
  obtain⟨x3,_,f3⟩:=iM (l:=B) (i:=a4) l4 m4
  have z1:(A.length<=sizeLine)=True:=bJ (by omega)
  have z2:(B.length<=sizeLine)=True:=bJ (by omega)
  have z3:(0<(A.length:Int))=True:=eq_true (by omega)
  have z4:((A.length:Int)<1073741824)=True:=eq_true (by omega)
  refine⟨.cV tj x1 x2 x3,S4,?_,((D02.tr D3).tr D4).mono (by omega),trivial⟩
  unfold cQ at *
  simp?[fx,ha,hpl,e1,q1,e2,hIF,s1,s2,e3,e4,f1,f2,f3,z1,z2,z3,z4,zaf,gW.t]
end
noncomputable def JF:Str:= "abcdefghij"
theorem Pk:(JF.cps.toList.length:Int)=10:=by decide +kernel
theorem Uz (h0:0<=i)(h1:i<10):∃c,iS JF.cps.toList i=some c:=by
 obtain⟨c,_,e⟩:=Fd (l:=JF.cps.toList) (i:=i) h0 (by rw[Pk];exact h1)
 exact⟨c,e⟩
section
variable {S:Cs}{m:M}{y:Ly}{d k n dd:Nat}
theorem Pn (h:eF S m y)(D:Dr m dd n)(hD:cD S d k)(hk:k<500000)(hd:d∉fp y):∃(e:gW) (S':Cs),CD [.hd d,.hd y.a] S = .ok e.t S'/\Dk S S' d (k+9)/\EK e:=by
 have qa:=Um h D.z D.hn;have hpl:=yJ h D.z;have ha:=h.a;unfold mF at ha;cases hg:gR m with
 |none =>
  obtain⟨e,S',e1,D1,hE⟩:=Ff h D hD (by omega) hd
  refine⟨e,S',?_,D1.mono (by omega),hE⟩
  have hs:qH m = .bw:=by unfold qH;rw[hg]
  rw[hs] at qa;unfold CD;generalize e.t=et at *
  simp?[fx,ha,qa,e1]
 |some x =>
  obtain⟨j,j01,hj⟩:∃j:Int,(j=0\/j=1)/\(if lS m x.bW=m.t1 then (1:Int) else 0)=j:=⟨_,by split<;>simp,rfl⟩
  have s1:=@jq m j j01
  have s2:=@jq m (1 - j) (by omega)
  have p1:=pX D j;have p2:=pX D (1 - j)
  have d2:=D.d2;have d11:=D.d11;have dp0:=D.p0;have z0:(m.p0.length<=sizeLine)=True:=bJ (by omega)
  have s3:=λ(v:Int) (hv:v=0\/v=1)=>@jq m v hv
  have p3:=λ(v:Int)=>pX D v
  have hs:∃r0 r1 r2 r3,qH m = .tp [.str (lS m x.bW),.str x.oH,.str x.vZ,.str x.vK,r0,r1,r2,r3]:=by
   unfold qH;rw[hg];exact⟨_,_,_,_,rfl⟩
  obtain⟨r0,r1,r2,r3,hs⟩:=hs;rw[hs] at qa;clear hs
  have hgt:tT [.bl (decide (lS m x.bW=m.t1))] S = .ok (.int j) S:=by
   rw[<-hj];by_cases q:lS m x.bW=m.t1
   ·rw[decide_eq_true q,if_pos q];rfl
   ·rw[decide_eq_false q,if_neg q];rfl
  generalize lS m x.bW=ts at *
  generalize lS m j=tj at *
  generalize lS m (1 - j)=tk at *
  generalize iE m j=A at *
  generalize iE m (1 - j)=B at *
  have z1:(A.length<=sizeLine)=True:=bJ (by omega)
  unfold cQ at hpl;obtain⟨PL,hPL⟩:∃PL,PL=[Tr.tp [.str m.t0,.ls (m.p0.map .str)],Tr.tp [.str m.t1,.ls (m.p1.map .str)]]:=⟨_,rfl⟩
  have i1:iS PL 1=some (.tp [.str m.t1,.ls (m.p1.map .str)]):=by rw[hPL];rfl
  have i0:iS PL 0=some (.tp [.str m.t0,.ls (m.p0.map .str)]):=by rw[hPL];rfl
  rw[<-hPL] at hpl s1 s2;simp only[<-hPL] at s3;unfold CD;simp?[fx,ha,qa,hpl,i1,↓hgt];by_cases q1:x.oH="" \/ x.vZ=""
  ·obtain⟨a3,S3,l3,m3,e3,D3⟩:=d7 hD (by omega) (many:=(A.length:Int)) (by omega) (by omega)
   obtain⟨x1,_,f1⟩:=iM (l:=A) (i:=a3) l3 m3
   refine⟨.rS x1,S3,?_,D3.mono (by omega),trivial⟩
   by_cases q2:x.oH=""
   ·simp?[fx,q2,s1,e3,f1,z1,zaf,gW.t]
   ·have q3:=q1.resolve_left q2
    simp?[fx,q2,q3,s1,e3,f1,z1,zaf,gW.t]
  ·have q2:¬ x.oH="" := λz=>q1 (.inl z)
   have q3:¬ x.vZ="" := λz=>q1 (.inr z)
   by_cases q4:x.vK=""
   ·obtain⟨a3,S3,l3,m3,e3,D3⟩:=d7 hD (by omega) (many:=(A.length:Int)) (by omega) (by omega)
    obtain⟨x1,_,f1⟩:=iM (l:=B) (i:=a3) l3 (by omega)
    refine⟨.pR x1,S3,?_,D3.mono (by omega),trivial⟩
    simp?[fx,q2,q3,q4,s1,s2,e3,f1,z1,zaf,gW.t]
   ·obtain⟨a3,S3,l3,m3,e3,D3⟩:=d7 hD (by omega) (many:=24) (by decide) (by decide)
    simp?[fx,q2,q3,q4,e3];by_cases w0:a3=0
    ·obtain⟨a4,S4,l4,m4,e4,D4⟩:=d7 D3.gX (by omega) (many:=2) (by decide) (by decide)
     obtain⟨x1,f1⟩:∃x1,iS [Tr.str ts,.str x.oH,.str x.vZ,.str x.vK,r0,r1,r2,r3] (1+a4)=some (.str x1):=by
      rcases (show a4=0\/a4=1 by omega) with rfl|rfl
      ·exact⟨_,rfl⟩
      ·exact⟨_,rfl⟩
     refine⟨.pS x1,S4,?_,(D3.tr D4).mono (by omega),trivial⟩
     simp?[fx,w0,e4,f1,gW.t]
    ·by_cases w1:a3=1
     ·obtain⟨a4,S4,l4,m4,e4,D4⟩:=d7 D3.gX (by omega) (many:=2) (by decide) (by decide)
      obtain⟨a5,S5,l5,m5,e5,D5⟩:=d7 D4.gX (by omega) (many:=(m.p0.length:Int)) (by omega) (by omega)
      obtain⟨a6,S6,l6,m6,e6,D6⟩:=d7 D5.gX (by omega) (many:=10) (by decide) (by decide)
      have s4:=s3 a4 (by omega)
      obtain⟨x1,_,f1⟩:=iM (l:=iE m a4) (i:=a5) l5 (by rw[p3];omega)
      obtain⟨c,f2⟩:=Uz l6 m6;have z2:(JF.length<=sizeLine)=True:=bJ (by decide +kernel)
      have z3:((Str.ofString "wx").length+1<=sizeLine)=True:=bJ (by decide +kernel)
      refine⟨.swap x1 (Str.ofString "wx"++⟨#[c]⟩),S6,?_,(((D3.tr D4).tr D5).tr D6).mono (by omega),trivial⟩
      rw[show Str.ofString "abcdefghij"=JF from rfl];generalize JF=L at *
      simp?[fx,w1,e4,e5,e6,s4,i0,f1,f2,z0,z2,z3,Aj,zaf,gW.t]
     ·by_cases w2:a3=2
      ·obtain⟨a4,S4,l4,m4,e4,D4⟩:=d7 D3.gX (by omega) (many:=3) (by decide) (by decide)
       by_cases w3:a4=0
       ·refine⟨.fO,S4,?_,(D3.tr D4).mono (by omega),trivial⟩
        simp?[fx,w2,w3,e4,gW.t]
       ·obtain⟨b,S5,e5,D5,hb⟩:=HD D4.gX (by omega) x.oH x.vZ
        refine⟨.lR b,S5,?_,((D3.tr D4).tr D5).mono (by omega),hb⟩
        show _=R.ok b.t S5
        generalize b.t=bt at *
        simp?[fx,w2,w3,e4,e5]
      ·obtain⟨b,S5,e5,D5,hb⟩:=HD D3.gX (by omega) x.oH x.vZ
       refine⟨.lR b,S5,?_,(D3.tr D5).mono (by omega),hb⟩
       show _=R.ok b.t S5
       generalize b.t=bt at *
       simp?[fx,w0,w1,w2,e5]
end
noncomputable def Rk (r:dU):Prop:=r.e.k∈vO/\(r.q="" ↔ r.e.w="")
theorem UA {x:I}{b:B}(h:x.iZ b=none):x.vY b="" ↔ b.w="" := by
 unfold I.iZ at h;split at h
 ·cases h
 ·rename_i hg
  have hf:¬ x.oH="" := λz=>hg (by unfold I.Qa I.dg;exact decide_eq_true (.inl z.symm))
  have ho:¬ x.vZ="" := λz=>hg (by unfold I.Qa I.dg;exact decide_eq_true (.inr z.symm))
  split at h
  ·cases h
  ·split at h
   ·cases h
   ·split at h
    ·cases h
    ·rename_i q
     unfold I.vY;by_cases hr:b.w="run"
     ·rw[if_pos hr]
      have hs:x.dg b.Az=true:=by
       cases hq:x.dg b.Az
       ·exact absurd ⟨hr,hq⟩ q
       ·rfl
      have hs:=of_decide_eq_true hs;refine⟨λz=>?_,λz=>?_⟩
      ·rcases hs with k|k
       ·exact absurd (k.symm.trans z) hf
       ·exact absurd (k.symm.trans z) ho
      ·rw[hr] at z;exact absurd z (by decide +kernel)
     ·rw[if_neg hr]
      by_cases he:b.w=""
      ·rw[if_pos he];exact⟨λ_=>he,λ_=>rfl⟩
      ·rw[if_neg he];exact⟨λz=>absurd z hf,λz=>absurd z he⟩
theorem Po {m:M}{rs:List dU}{e:gW}(hl:m.fH=rs.map dU.t)(hk:∀r∈rs,Rk r)(hE:EK e)(hr:qI m e=none):∃Pp:List dU,(pW m e).fH=Pp.map dU.t/\∀r∈Pp,Rk r:=by
 unfold pW;rw[HB];unfold qI at hr;split at hr
 ·cases hr
 have Ay:∀e,(∀x,(lU m x e).fH=m.fH)->(match gR m with|some x=>lU m x e|none=>m).fH=m.fH:=λe q=>by
  cases gR m with
  |none=>rfl
  |some x=>exact q x
 cases e with
 |cV t f o b=>exact⟨rs,hl,hk⟩
 |swap a b=>exact⟨rs,by rw[<-hl];exact (X3 m a b).2.2,hk⟩
 |h_=>exact⟨rs,hl,hk⟩
 |lJ=>exact⟨rs,by rw[<-hl];exact (X4 m).2.2,hk⟩
 |rS n=>exact⟨rs,by rw[<-hl];exact Ay _ λ_=>rfl,hk⟩
 |pR n=>exact⟨rs,by rw[<-hl];exact Ay _ λ_=>rfl,hk⟩
 |pS n=>exact⟨rs,by rw[<-hl];exact Ay _ λ_=>rfl,hk⟩
 |fO=>exact⟨rs,by rw[<-hl];exact Ay _ λ_=>rfl,hk⟩
 |lR b =>
  have hr:dY m (.lR b)=none:=hr
  unfold dY at hr;show ∃Pp:List dU,(match gR m with|some x=>lU m x (.lR b)|none=>m).fH=Pp.map dU.t/\∀r∈Pp,Rk r
  cases hg:gR m with
  |none=>rw[hg] at hr;cases hr
  |some x =>
   rw[hg] at hr;have hr:x.iZ b=none:=hr
   refine⟨rs++[⟨(m.pl.length:Int) - 1,x.ov,x.ba,x.oH,x.vZ,x.vK,b,x.vY b⟩],?_,λr wM=>?_⟩
   ·show m.fH++[iK m x b]=_
    rw[hl,zaF];rfl
   ·rcases zbW.mp wM with q|q
    ·exact hk r q
    ·rw[zbs] at q
     subst q;exact⟨hE,UA hr⟩
theorem cD.on (h:cD S d k)(o:bH F S S')(hd:d∉F):cD S' d k:=by
 obtain⟨cs,a,l,n,b,h1,h2⟩:=h;exact⟨cs,a,l,n,b,o.at h1 hd,h2⟩
structure Pl (S:Cs) (d k dd N a:Nat) (m:M) (y:Ly) (rs:List dU):Prop where
 gX:eF S m y
 a:y.a=a
 dr:cD S d k
 nd:d∉fp y
 D:Dr m dd N
 fH:m.fH=rs.map dU.t
 rk:∀r∈rs,Rk r
theorem Pq {S:Cs}{d k:Nat}(hD:cD S d k)(hk:k<1000):∃(u:U) (S':Cs) (dd N a:Nat) (m:M) (y:Ly) (rs:List dU),Hj [.hd d] S = .ok (.ls [u.t,.hd a]) S'/\Pl S' d 10000 dd N a m y rs:=by
 obtain⟨u,S1,e1,D1,u2,u11⟩:=Ph hD (by omega)
 obtain⟨sd,Ue⟩:=zbf (by omega:0<=u.d)
 have hd1:=D1.gX.lt;obtain⟨t0,t1,p0,p1,S2,e2,D2,l0,l1⟩:=Pj D1.gX (by omega) sd (by omega) (by omega)
 have D02:=D1.tr D2;have hd2:=D02.gX.lt;have e3:=adP u t0 t1 p0 p1 (by omega) (by omega) S2
 have hM:=Uk S2 u t0 t1 p0 p1;have hZ:=Ul u t0 t1 p0 p1 (by omega) (by omega)
 have Dr0:Dr (iQ u t0 t1 p0 p1) sd 22:=⟨hZ,by decide,l0,l1,by omega,by omega,[],rfl⟩
 have lg0:(iQ u t0 t1 p0 p1).fH=([]:List dU).map dU.t:=rfl
 have D3:cD (yH S2 (iQ u t0 t1 p0 p1)) d (k+12+30):=D02.gX.rJ _
 have nd0:d∉fp (vN S2.length):=λq=>by simp[fp,vN] at q;omega
 generalize iQ u t0 t1 p0 p1=m0 at *
 generalize yH S2 m0=S3 at *
 obtain⟨a4,S4,l4,m4,e4,D4⟩:=d7 D3 (by omega) (many:=4) (by decide) (by decide)
 obtain⟨N,hN,eN⟩:∃N:Nat,N<=90/\iS [Tr.int 12,.int 30,.int 60,.int 90] a4=some (.int (N:Int)):=by
  rcases (show a4=0\/a4=1\/a4=2\/a4=3 by omega) with rfl|rfl|rfl|rfl
  ·exact⟨12,by decide,rfl⟩
  ·exact⟨30,by decide,rfl⟩
  ·exact⟨60,by decide,rfl⟩
  ·exact⟨90,by decide,rfl⟩
 have P0:Pl S4 d (k+43+9 * 0) sd (22+0) S2.length m0 (vN S2.length) []:=⟨D4.mat hM nd0,rfl,D4.gX.mono (by omega),nd0,Dr0,lg0,λr hr=>by cases hr⟩
 have hut:u.t = .tp [.int u.o,.int u.v,.int u.s,.int u.w,.int u.n,.int u.d,.int u.i,.int u.f]:=rfl
 have hr:(-4611686018427387904<=(N:Int)/\(N:Int)<4611686018427387904)=True:=eq_true (by omega)
 rw[hut,Ue] at e1 e3;rw[<-Ue] at e2;rw[Ue] at e2;unfold Hj;obtain⟨uT,HE⟩:∃uT,uT=Tr.tp [.int u.o,.int u.v,.int u.s,.int u.w,.int u.n,.int (sd:Int),.int u.i,.int u.f]:=⟨_,rfl⟩
 have i5:∀S,aZ uT (.int 5) S = .ok (.int (sd:Int)) S:=λS=>by rw[HE];rfl
 rw[<-HE] at e1 e3;generalize cQ t0 t1 p0 p1=sT at *
 simp?[fx,e1,↓i5,e2,e3,e4,eN,hr,zbm];generalize hZ:jL _ _ _ _ _ _=Z
 obtain⟨lQ,S',⟨⟨v,rfl⟩,m,y,rs,P⟩,rfl⟩:=ni hZ (λi τ S'=>(∃v,τ=[some (.hd d),some uT,some (.hd S2.length),v])/\∃m y rs,Pl S' d (k+43+9 * i) sd (22+i) S2.length m y rs) (λ_ _ _ _=>trivial) ⟨⟨_,rfl⟩,m0,_,[],P0⟩ (by
  rintro i t τ S5 ht ⟨⟨v,rfl⟩,m,y,rs,P⟩
  obtain⟨jR,rfl⟩:=t9 ht;obtain⟨e,S6,f1,D6,hE⟩:=Pn P.gX P.D P.dr (by omega) P.nd
  have hM6:=D6.mat P.gX P.nd;have ha:=P.gX.a;unfold mF at ha;rw[P.a] at f1 ha;have hd6:=D6.gX.lt;cases hr:qI m e with
  |none =>
   obtain⟨S7,y7,k1,T,z7⟩:=Us hM6 P.D.z (by omega) e hr
   obtain⟨Pp,hl',hk'⟩:=Po P.fH P.rk hE hr;rw[P.a] at k1;refine⟨[some (.hd d),some uT,some (.hd S2.length),some (.int (0+(i:Int)))],S7,.inl ?_,⟨_,rfl⟩,_,y7,Pp,T.gX,T.a.trans P.a,(D6.gX.on T.on P.nd).mono (by omega),λq=>(T.fp _ q).elim P.nd λq=>by omega,P.D.amX e z7 (by omega),hl',hk'⟩
   generalize e.t=et at *
   simp?[fx,f1,ha,k1]
  |some w =>
   obtain⟨S0,⟨G,e0⟩,k1⟩:=Ut hM6 P.D.z (by omega) e w hr
   have on:bH [] S6 (S0++[.wD "NotLet" [("rule",.str w),("number",.int 0)]]):=by
    rw[e0,zbJ];exact bH.rJ
   rw[P.a] at k1;refine⟨[some (.hd d),some uT,some (.hd S2.length),some (.int (0+(i:Int)))],_,.inr ?_,⟨_,rfl⟩,m,y,rs,hM6.only on (by simp),P.a,(D6.gX.on on (by simp)).mono (by omega),P.nd,P.D.mono (by omega) (by omega),P.fH,P.rk⟩
   generalize e.t=et at *
   simp?[fx,f1,ha,k1,ga0,zbs])
 rw[mQ] at P;refine⟨u,S',sd,_,S2.length,m,y,rs,?_,⟨P.gX,P.a,P.dr.mono (by omega),P.nd,P.D,P.fH,P.rk⟩⟩
 rw[hut,Ue,<-HE];simp only[↓bp,bx,simprocAttr]
theorem Pr (rs:List dU)(i j:Nat)(h:i<=j):wL (rs.map dU.t) (some (i:Int)) (some (j:Int))=((rs.take j).drop i).map dU.t:=by
 rw[TU _ i j h,<-List.map_take,<-List.map_drop]
theorem adZ (hD:cD S d k)(hk:k<100000)(rs:List dU)(hl:rs.length<=1000):∃(Pp:List dU) (S':Cs),Hl [.hd d,.ls (rs.map dU.t)] S = .ok (.ls (Pp.map dU.t)) S'/\Dk S S' d (k+3)/\(∀r∈Pp,r∈rs)/\Pp.length<=rs.length:=by
 obtain⟨a1,S1,l1,m1,e1,D1⟩:=d7 hD (by omega) (many:=2) (by decide) (by decide)
 unfold Hl;by_cases q:a1=0
 ·refine⟨rs,S1,?_,D1.mono (by omega),λ_ h=>h,zah _⟩
  simp?[e1,q]
 ·have z1:(rs.length<=sizeLine)=True:=bJ (by omega)
  obtain⟨a2,S2,l2,m2,e2,D2⟩:=d7 D1.gX (by omega) (many:=(rs.length:Int)+1) (by omega) (by omega)
  obtain⟨a3,S3,l3,m3,e3,D3⟩:=d7 D2.gX (by omega) (many:=(rs.length:Int) - a2+1) (by omega) (by omega)
  obtain⟨i,rfl⟩:=zbf l2;obtain⟨j,rfl⟩:=zbf l3;have ec:=Pr rs i (i+j) (by omega)
  rw[show ((i+j:Nat):Int)=(i:Int)+(j:Int) by omega] at ec
  refine⟨(rs.take (i+j)).drop i,S3,?_,((D1.tr D2).tr D3).mono (by omega),λr hr=>zeG (zeH hr),by rw[zck,zaB];omega⟩
  simp?[e1,q,e2,e3,z1,ec,zaf]
theorem ad0 (u:U)(b:B)(S:Cs):Hr [u.t,b.t] S = .ok (.tp [.int (b.nN u),.int (if gH b.k=true then 1 else 0)]) S:=by
 have k1:=OS u b S;unfold Hr;unfold B.E3 at k1;generalize u.t=ut at *
 generalize b.t=bt at *
 cases hf:gH b.k
 ·rw[hf] at k1
  simp?[k1]
 ·rw[hf] at k1
  simp?[k1]
theorem X7 {α:Type}{P:List α -> Prop}(h0:P [])(h1:∀X r,P X->P (X++[r]))(X:List α):P X:=by
 have h:∀Y:List α,P Y.reverse:=λY=>by
  induction Y with
  |nil=>exact h0
  |cons a Y ih=>rw[List.reverse_cons];exact h1 _ _ ih
 have:=h X.reverse
 rwa[List.reverse_reverse] at this
noncomputable abbrev PR:=(Int×Str×Str)×Int×Int
noncomputable def ky (r:dU):Int×Str×Str:=(r.a,oN r.f r.o,nK r.f r.o)
noncomputable def gM (p:PR):Tr:=.tp [.int p.1.1,.str p.1.2.1,.str p.1.2.2,.int p.2.1,.int p.2.2]
noncomputable def frI (r:dU):Int:=if gH r.e.k=true then 1 else 0
noncomputable def v_ (u:U)(r:dU):PR:=(ky r,r.e.nN u,frI r)
noncomputable def iu (u:U)(z:PR)(r:dU):PR:=(ky r,z.2.1+r.e.nN u,z.2.2+frI r)
noncomputable def stp (u:U)(Z:List PR)(r:dU):List PR:=if (Z.getLast?.map (·.1))=some (ky r) then Z.dropLast++(Z.getLast?.map λz=>iu u z r).toList else Z++[v_ u r]
noncomputable def k_ (u:U)(X:List dU):List PR:=X.foldl (stp u) []
theorem pY (u:U)(X:List dU)(r:dU):k_ u (X++[r])=stp u (k_ u X) r:=by unfold k_;rw[List.foldl_append];rfl
theorem HF (u:U)(r:dU):stp u [] r=[v_ u r]:=rfl
theorem pZ (u:U)(Z:List PR)(z:PR)(r:dU)(h:z.1=ky r):stp u (Z++[z]) r=Z++[iu u z r]:=by
 unfold stp;rw[zdp,zbY,h,if_pos rfl,List.dropLast_concat];rfl
theorem nH (u:U)(Z:List PR)(z:PR)(r:dU)(h:z.1≠ky r):stp u (Z++[z]) r=Z++[z]++[v_ u r]:=by
 unfold stp;rw[zdp,zbY,if_neg (λe=>h (zas e))]
theorem Pu (u:U)(X:List dU)(r:dU):∃Z z,k_ u (X++[r])=Z++[z]/\z.1=ky r:=by
 rw[pY];rcases zaV (k_ u X) with e|⟨Z,z,e⟩
 ·rw[e];exact⟨[],_,rfl,rfl⟩
 ·rw[e,zcb]
  by_cases h:z.1=ky r
  ·rw[pZ _ _ _ _ h];exact⟨_,_,rfl,rfl⟩
  ·rw[nH _ _ _ _ h];exact⟨_,_,rfl,rfl⟩
theorem As (u:U)(X:List dU):(k_ u X).length<=X.length:=by
 refine X7 (P:=λX=>(k_ u X).length<=X.length) (zah _) (λX r ih=>?_) X
 ·rw[pY]
  rcases zaV (k_ u X) with e|⟨Z,z,e⟩
  ·rw[e,HF];simp
  ·rw[zcb] at e
   rw[e] at ih ⊢
   by_cases h:z.1=ky r
   ·rw[pZ _ _ _ _ h];simp at *;omega
   ·rw[nH _ _ _ _ h];simp at *;omega
noncomputable def vP (u:U)(Y:List dU):Int×Int:=((Y.map λr=>r.e.nN u).sum,(Y.map frI).sum)
theorem UB (u:U)(X:List dU)(k:Int×Str×Str)(hX:∀r,X.getLast? = some r->ky r≠k):∀(Y:List dU),Y≠[]->(∀r∈Y,ky r=k)->k_ u (X++Y)=k_ u X++[(k,vP u Y)]:=by
 refine X7 (λh=>absurd rfl h) λY r ih=>?_
 ·intro _ hk
  rw[<-zbJ,pY];have kr:ky r=k:=hk r (by simp)
  by_cases hy:Y=[]
  ·subst hy
   rw[zaw,zaX];have es:(k,vP u [r])=v_ u r:=by unfold vP v_;rw[kr];simp
   rw[es];rcases zaV X with e|⟨X',r',e⟩
   ·subst e;rfl
   ·rw[zcb] at e
    subst e;obtain⟨Z,z,e2,e3⟩:=Pu u X' r';rw[e2];exact nH _ _ _ _ (by rw[e3,kr];exact hX r' zdp)
  ·rw[ih hy λr hr=>hk r (zcg _ hr),pZ _ _ _ _ kr.symm]
   unfold iu vP;rw[kr];simp
theorem Pw (a b x y:Int)(S:Cs):Hs [.tp [.int a,.int b],.tp [.int x,.int y]] S = .ok (.tp [.int (a+x),.int (b+y)]) S:=by
 unfold Hs;have ez:∀(τ:En) (fr:En->Cs->R (List Tr)),qX fr τ S=(fr τ S).az qW:=λ_ _=>rfl
 have ek:∀l m:List Tr,qW [.tp l,.tp m] S = .ok ⟨pH l m,λ_=>True⟩ S:=λ_ _=>rfl
 have et:∀l:List Tr,mK [.ls l] S = .ok (.tp l) S:=λ_=>rfl
 simp?[ez,ek,pH,zbV,List.zip_nil_left,↓et]
theorem Au (x y:Str)(S:Cs):kU [.ls [.str x,.str y]] S = .ok (.ls [.str (oN x y),.str (nK x y)]) S:=rfl
theorem vQ (x y:Str)(S:Cs):kU [.tp [.str x,.str y]] S = .ok (.ls [.str (oN x y),.str (nK x y)]) S:=rfl
theorem ad2 (l m:List Tr)(S:Cs):M5 (.tp l) (.tp m) S=if l.length=m.length/\l.all dQ=true/\m.all dQ=true then .ok (.bl (rR l m)) S else .ay:=rfl
theorem aja (a b:Int×Str×Str)(S:Cs):M5 (.tp [.int a.1,.str a.2.1,.str a.2.2]) (.tp [.int b.1,.str b.2.1,.str b.2.2]) S = .ok (.bl (decide (a=b))) S:=by
 obtain⟨a1,a2,a3⟩:=a;obtain⟨b1,b2,b3⟩:=b;have:rR [.int a1,.str a2,.str a3] [.int b1,.str b2,.str b3]=decide ((a1,a2,a3)=(b1,b2,b3)):=by
  rw[zaK];simp[rR,P6]
 rw[ad2,if_pos ⟨rfl,rfl,rfl⟩,this]
theorem Px (n:Nat)(h:(x::l).length+m.length=n)(hn:n<=sizeLine):c_ (.tp (x::l)) (.tp m) S = .ok (.tp (x::l++m)) S:=if_pos ⟨rfl,by rw[h];exact hn⟩
theorem ajb (a b c d e:Tr)(S:Cs):vX (.tp [a,b,c,d,e]) none (some 3) S = .ok (.tp [a,b,c]) S:=by
 show (if ¬ (HT.gj 5 0 none=0/\HT.gj 5 5 (some 3)=5) then R.ok (Tr.tp (wL [a,b,c,d,e] none (some 3))) S else R.ay)=_
 rw[if_pos (by decide)];rfl
theorem ajc (a b c d e:Tr)(S:Cs):vX (.tp [a,b,c,d,e]) (some 3) none S = .ok (.tp [d,e]) S:=by
 show (if ¬ (HT.gj 5 0 (some 3)=0/\HT.gj 5 5 none=5) then R.ok (Tr.tp (wL [a,b,c,d,e] (some 3) none)) S else R.ay)=_
 rw[if_pos (by decide)];rfl
theorem X8 (hl:X.length<=1000)(S:Cs):CG [u.t,.ls (X.map dU.t)] S = .ok (.hd S.length) (S++[.aV ((k_ u X).map gM)]):=by
 have ht:=λb S=>ad0 u b S
 obtain⟨uT,HE⟩:∃uT,uT=u.t:=⟨_,rfl⟩
 rw[<-HE];simp only[<-HE] at ht;unfold CG;simp only[↓bp,bx,simprocAttr];generalize hZ:jL _ _ _ _ _ _=Z
 obtain⟨lQ,S',⟨⟨v,rfl,hv⟩,rfl⟩,rfl⟩:=ni hZ (λi τ S'=>(∃v,τ=some uT::some (.ls (X.map dU.t))::some (.hd S.length)::v/\v.length=10)/\S'=S++[.aV ((k_ u (X.take i)).map gM)]) (λi τ S' _=>trivial) ⟨⟨_,rfl,rfl⟩,rfl⟩ (by
  rintro i t τ S' ht' ⟨⟨v,rfl,hv⟩,rfl⟩
  rw[zar] at ht';cases hr:X[i]? with
  |none=>rw[hr] at ht';cases ht'
  |some r =>
   rw[hr] at ht';cases ht';have et:X.take (i+1)=X.take i++[r]:=by rw[zeB,hr];rfl
   rw[et,pY];have cJ:=As u (X.take i)
   rw[zaB] at cJ;obtain⟨v3,v4,v5,v6,v7,v8,v9,v10,Zs,v12,rfl⟩:∃v3 v4 v5 v6 v7 v8 v9 v10 Zs v12,v=[v3,v4,v5,v6,v7,v8,v9,v10,Zs,v12]:=by
    match v,hv with
    |[v3,v4,v5,v6,v7,v8,v9,v10,Zs,v12],_=>exact⟨_,_,_,_,_,_,_,_,_,_,rfl⟩
   have h1:=λS=>ht r.e S
   have g0:∀L:List Tr,(S++[Ce.aV L])[S.length]? = some (.aV L):=λL=>by simp
   have s0:∀(L:List Tr) (c:Ce),(S++[Ce.aV L]).set S.length c=S++[c]:=λL c=>by simp
   have er:r.t = .tp [.int r.a,.int r.b,.int r.c,.str r.f,.str r.o,.str r.w,r.e.t,.str r.q]:=rfl
   rw[er];have gt:∀(l:List Tr) (S:Cs),mK [.ls l] S = .ok (.tp l) S:=λ_ _=>rfl
   have ga1:∀(x y z:Tr) (S:Cs),c_ (.tp [x]) (.tp [y,z]) S = .ok (.tp [x,y,z]) S:=λ_ _ _ _=>Px (l:=[]) (m:=[_,_]) 3 rfl (by decide)
   have ga2:∀(x y z p q:Tr) (S:Cs),c_ (.tp [x,y,z]) (.tp [p,q]) S = .ok (.tp [x,y,z,p,q]) S:=λ_ _ _ _ _ _=>Px (l:=[_,_]) (m:=[_,_]) 5 rfl (by decide)
   generalize C3:(if gH r.e.k=true then (1:Int) else 0)=fr at h1
   generalize hg:r.e.nN u=g at h1
   have eo:gM (v_ u r) = .tp [.int r.a,.str (oN r.f r.o),.str (nK r.f r.o),.int g,.int fr]:=by unfold gM v_ ky frI;rw[C3,hg]
   generalize r.e.t=bt at *
   rcases zaV (k_ u (X.take i)) with e|⟨Z,z,e⟩
   ·rw[e,HF]
    refine⟨[some uT,some (.ls (X.map dU.t)),some (.hd S.length),some (.int r.a),some (.int r.b),some (.int r.c),some (.str r.f),some (.str r.o),some (.str r.w),some bt,some (.str r.q),some (.tp [.int r.a,.str (oN r.f r.o),.str (nK r.f r.o)]),some (.tp [.int g,.int fr])],S++[.aV [gM (v_ u r)]],.inl ?_,⟨_,rfl,rfl⟩,rfl⟩
    rw[eo];simp?[h1,↓Au,↓gt,↓ga1,↓ga2,g0,s0,zaI]
   ·rw[zcb] at e
    rw[e] at cJ ⊢
    obtain⟨⟨z1,z2,z3⟩,z4,z5⟩:=z
    have hz:(((Z++[((z1,z2,z3),z4,z5)]).map gM).length<=sizeLine)=True:=bJ (by simp at cJ ⊢;omega)
    have Ii:(((Z++[((z1,z2,z3),z4,z5)]).map gM).length<sizeLine)=True:=kR (by simp at cJ ⊢;omega)
    have hp:((0:Int)<(((Z++[((z1,z2,z3),z4,z5)]).map gM).length:Int))=True:=eq_true (by rw[zaf,zak];simp)
    have gi:aZ (.hd S.length) (.int (-1)) (S++[Ce.aV ((Z++[((z1,z2,z3),z4,z5)]).map gM)]) = .ok (.tp [.int z1,.str z2,.str z3,.int z4,.int z5]) (S++[Ce.aV ((Z++[((z1,z2,z3),z4,z5)]).map gM)]):=by
     have h0:zo (S++[Ce.aV ((Z++[((z1,z2,z3),z4,z5)]).map gM)]) (.hd S.length)=some ((Z++[((z1,z2,z3),z4,z5)]).map gM):=by show cO _ S.length=_;unfold cO;rw[g0]
     have h2:iS ((Z++[((z1,z2,z3),z4,z5)]).map gM) (-1)=some (.tp [.int z1,.str z2,.str z3,.int z4,.int z5]):=by rw[zaF];exact jo _ _
     unfold aZ;simp only[h0,h2]
    have eq:=aja (z1,z2,z3) (ky r) (S++[Ce.aV ((Z++[((z1,z2,z3),z4,z5)]).map gM)])
    have ix:CZ ((Z++[((z1,z2,z3),z4,z5)]).map gM).length (-1)=some Z.length:=by unfold CZ;simp;omega
    have st:∀c,((Z++[((z1,z2,z3),z4,z5)]).map gM).set Z.length c=Z.map gM++[c]:=λc=>by simp
    have ha:=Pw z4 z5 g fr (S++[Ce.aV ((Z++[((z1,z2,z3),z4,z5)]).map gM)])
    have em:(Z++[((z1,z2,z3),z4,z5)]++[v_ u r]).map gM=(Z++[((z1,z2,z3),z4,z5)]).map gM++[gM (v_ u r)]:=by rw[zaF];rfl
    by_cases hk:(z1,z2,z3)=ky r
    ·rw[pZ _ _ _ _ hk]
     rw[decide_eq_true hk] at eq;refine⟨[some uT,some (.ls (X.map dU.t)),some (.hd S.length),some (.int r.a),some (.int r.b),some (.int r.c),some (.str r.f),some (.str r.o),some (.str r.w),some bt,some (.str r.q),some (.tp [.int r.a,.str (oN r.f r.o),.str (nK r.f r.o)]),some (.tp [.int g,.int fr])],S++[.aV (Z.map gM++[.tp [.int r.a,.str (oN r.f r.o),.str (nK r.f r.o),.int (z4+g),.int (z5+fr)]])],.inl ?_,⟨_,rfl,rfl⟩,?_⟩
     ·unfold ky at eq
      generalize (Z++[((z1,z2,z3),z4,z5)]).map gM=L at *
      simp?[h1,↓Au,↓gt,↓ga1,↓ga2,g0,hp,↓gi,↓ajb,↓ajc,↓eq,ha,ix,st,s0,-vX]
     ·unfold iu ky frI gM;rw[C3,hg];simp
    ·rw[nH _ _ _ _ hk]
     rw[decide_eq_false hk] at eq;refine⟨[some uT,some (.ls (X.map dU.t)),some (.hd S.length),some (.int r.a),some (.int r.b),some (.int r.c),some (.str r.f),some (.str r.o),some (.str r.w),some bt,some (.str r.q),some (.tp [.int r.a,.str (oN r.f r.o),.str (nK r.f r.o)]),some (.tp [.int g,.int fr])],S++[.aV ((Z++[((z1,z2,z3),z4,z5)]).map gM++[gM (v_ u r)])],.inl ?_,⟨_,rfl,rfl⟩,by rw[em]⟩
     unfold ky at eq;rw[eo];generalize (Z++[((z1,z2,z3),z4,z5)]).map gM=L at *
     simp?[h1,↓Au,↓gt,↓ga1,↓ga2,g0,hp,Ii,↓gi,↓ajb,↓ajc,↓eq,s0,-vX])
 rw[zaf,zbr];simp only[↓bp,bx,simprocAttr]
noncomputable def pc (a b c d e:Tr):List (dz×Tr):=[(.inr (Str.ofString "team"),a),(.inr (Str.ofString "bat"),b),(.inr (Str.ofString "charged"),c),(.inr (Str.ofString "fair"),d),(.inr (Str.ofString "faced"),e)]
section
variable {a b c d e:Tr}
theorem ane:aP (.inr (Str.ofString "team")) (pc a b c d e)=some a:=by kernel_rfl
theorem anf:aP (.inr (Str.ofString "fair")) (pc a b c d e)=some d:=by kernel_rfl
theorem vR:eB [] [(.inr (Str.ofString "team"),a),(.inr (Str.ofString "bat"),b),(.inr (Str.ofString "charged"),c),(.inr (Str.ofString "fair"),d),(.inr (Str.ofString "faced"),e)]=pc a b c d e:=by kernel_rfl
end
noncomputable def ki (b:B):Int:=if gH b.k=true then 1 else 0
theorem Py (u:U)(b:B)(hb:b.k∈vO)(S:Cs):∃x2 x3 x5,CF [u.t,b.t] S = .ok (.hd S.length) (S++[.gQ (pc (.int (b.nN u)) x2 x3 (.int (ki b)) x5)]):=by
 obtain⟨k,r,rp,w,Az,en⟩:=b;have hb:k∈vO:=hb
 have X5:=xM S []
 have X6:=λc=>zF S (Ce.gQ []) c
 unfold CF U.t B.t;have hk:k="bat" \/ (k="bye" \/ k="leg")\/k="wide" \/ k="no" \/ k="nobye" := by
  unfold vO at hb;simp only[zap,zaC,or_false] at hb;rcases hb with h|h|h|h|h|h|h|h<;>simp[h]
 rcases hk with rfl|hk|rfl|rfl|rfl
 ·have g:B.nN u ⟨"bat",r,rp,w,Az,en⟩=r:=by unfold B.nN Hv;simp
  have f:ki ⟨"bat",r,rp,w,Az,en⟩=1:=(show (if gH (Str.ofString "bat")=true then (1:Int) else 0)=1 by decide +kernel)
  rw[g,f];exact⟨_,_,_,by simp?[vR,X5,X6];rfl⟩
 ·have n1:¬ k="bat" := λz=>by rcases hk with h|h<;>rw[h] at z<;>exact absurd z (by decide +kernel)
  have g:B.nN u ⟨k,r,rp,w,Az,en⟩=r:=by
   have n2:¬ k="wide" := λz=>by rcases hk with h|h<;>rw[h] at z<;>exact absurd z (by decide +kernel)
   have n3:¬ k="no" := λz=>by rcases hk with h|h<;>rw[h] at z<;>exact absurd z (by decide +kernel)
   have n4:¬ k="nobye" := λz=>by rcases hk with h|h<;>rw[h] at z<;>exact absurd z (by decide +kernel)
   unfold B.nN Hv;simp only[if_neg n1,if_neg n2,if_neg n3,if_neg n4];omega
  have f:ki ⟨k,r,rp,w,Az,en⟩=1:=by
   rcases hk with rfl|rfl
   ·exact (show (if gH (Str.ofString "bye")=true then (1:Int) else 0)=1 by decide +kernel)
   ·exact (show (if gH (Str.ofString "leg")=true then (1:Int) else 0)=1 by decide +kernel)
  rw[g,f];exact⟨_,_,_,by simp?[n1,P_,bQ,zaG,zbt,zbi,hk,vR,X5,X6];rfl⟩
 ·have n1:¬ (Str.ofString "wide"=Str.ofString "bat"):=by decide +kernel
  have n2:¬ (Str.ofString "wide"=Str.ofString "bye" \/ Str.ofString "wide"=Str.ofString "leg"):=by decide +kernel
  have g:B.nN u ⟨"wide",r,rp,w,Az,en⟩=r+u.w:=by
   unfold B.nN Hv;simp only[if_neg n1,if_true];omega
  have f:ki ⟨"wide",r,rp,w,Az,en⟩=0:=(show (if gH (Str.ofString "wide")=true then (1:Int) else 0)=0 by decide +kernel)
  rw[g,f];exact⟨_,_,_,by simp?[n1,n2,P_,bQ,zaG,zbt,zbi,vR,X5,X6];rfl⟩
 ·have n1:¬ (Str.ofString "no"=Str.ofString "bat"):=by decide +kernel
  have n2:¬ (Str.ofString "no"=Str.ofString "bye" \/ Str.ofString "no"=Str.ofString "leg"):=by decide +kernel
  have n3:¬ (Str.ofString "no"=Str.ofString "wide"):=by decide +kernel
  have g:B.nN u ⟨"no",r,rp,w,Az,en⟩=r+u.n:=by
   unfold B.nN Hv;simp only[if_neg n1,if_neg n3,if_true]
  have f:ki ⟨"no",r,rp,w,Az,en⟩=0:=(show (if gH (Str.ofString "no")=true then (1:Int) else 0)=0 by decide +kernel)
  rw[g,f];exact⟨_,_,_,by simp?[n1,n2,n3,P_,bQ,zaG,zbt,zbi,vR,X5,X6];rfl⟩
 ·have n1:¬ (Str.ofString "nobye"=Str.ofString "bat"):=by decide +kernel
  have n2:¬ (Str.ofString "nobye"=Str.ofString "bye" \/ Str.ofString "nobye"=Str.ofString "leg"):=by decide +kernel
  have n3:¬ (Str.ofString "nobye"=Str.ofString "wide"):=by decide +kernel
  have n4:¬ (Str.ofString "nobye"=Str.ofString "no"):=by decide +kernel
  have g:B.nN u ⟨"nobye",r,rp,w,Az,en⟩=r+u.n:=by
   unfold B.nN Hv;simp only[if_neg n1,if_neg n3,if_neg n4,if_true];omega
  have f:ki ⟨"nobye",r,rp,w,Az,en⟩=0:=(show (if gH (Str.ofString "nobye")=true then (1:Int) else 0)=0 by decide +kernel)
  rw[g,f];exact⟨_,_,_,by simp?[n1,n2,n3,n4,P_,bQ,zaG,zbt,zbi,vR,X5,X6];rfl⟩
noncomputable def ang (u:U)(S:Cs)(n:Nat)(X:List dU):Prop:=∀(j:Nat) (r:dU),X[j]? = some r->∃x2 x3 x5,S[n+j]? = some (.gQ (pc (.int (r.e.nN u)) x2 x3 (.int (ki r.e)) x5))
noncomputable def F43:Sm:=(ao (aR 6 (fu (tZ iL (Kn vX (aa 1) (gV (aa 3)) (gV (aa 5)))) [0] 1 (bI 1) fY (dR 2 CF (af (aa 0) (af (ai aZ (aa 1) (mC (.int 6))) aj)))))
   (ao (aR 7 (bA tU (af (fu (tZ iL (aa 6)) [] 1 (bI 0) fY (ai jI (aa 0) (mC (.str "team")))) aj)))
   (ao (eV (tV IL zw (aa 2) (af (dO (af (ai aZ (ai aZ (aa 1) (aa 3)) (mC (.int 0))) (af (ai aZ (aa 4) (mC (.int 0))) (af (ai aZ (aa 4) (mC (.int 1))) (af (aa 7) (af (bA tU (af (fu (tZ iL (aa 6)) [] 1 (bI 0) fY (ai jI (aa 0) (mC (.str "fair")))) aj)) aj)))))) aj)))
   (aR 3 (aa 5)))))
theorem ad3 {u:U}{X Y:List dU}{k e:Nat}(hke:k<=e)(eY:(X.take e).drop k=Y)(hk:∀r∈Y,Rk r)(hl:X.length<=1000)(hlY:Y.length<=1000){r0:dU}(h0:X[k]? = some r0){S:Cs}{d:Nat}{L:List Tr}(hd:S[d]? = some (.aV L))(hL:L.length<1000)(x y:Str)(v6 v7:Option Tr):
  ∃w6 w7 J,F43 [some u.t,some (.ls (X.map dU.t)),some (.hd d),some (.int k),some (.ls [.str x,.str y]),some (.int e),v6,v7] S = .nx [some u.t,some (.ls (X.map dU.t)),some (.hd d),some (.int e),some (.ls [.str x,.str y]),some (.int e),w6,w7] ((S++J).set d (.aV (L++[.tp [.int r0.a,.str x,.str y,.int (vP u Y).1,.int (vP u Y).2]]))):=by
 unfold F43;obtain⟨uT,HE⟩:∃uT,uT=u.t:=⟨_,rfl⟩
 rw[<-HE];have hc:=λb hb S=>Py u b hb S
 simp only[<-HE] at hc;have ec:=Pr X k e hke;rw[eY] at ec;simp?[ec];generalize hZ:cS _ _ _ _ _ _ _ _=Z
 obtain⟨e_,bO,S',⟨_,rfl,Ds,rfl,hDl,hC⟩,rfl⟩:=nj hZ (λi τ bO S'=>(∃v,τ=[some uT,v])/\bO=(List.range i).map (λj=>Tr.hd (S.length+j))/\∃Ds,S'=S++Ds/\Ds.length=i/\ang u S' S.length (Y.take i)) (λ_ _ _ _ _=>trivial) ⟨⟨_,rfl⟩,rfl,[],by simp,rfl,λj r q=>by simp at q⟩ (by rw[zaf];omega) (by
  rintro i t τ bO S' ht ⟨⟨v,rfl⟩,rfl,Ds,rfl,hDl,hC⟩
  rw[zar] at ht;cases hr:Y[i]? with
  |none=>rw[hr] at ht;cases ht
  |some r =>
   rw[hr] at ht;cases ht;obtain⟨x2,x3,x5,e1⟩:=hc r.e (hk r (zaR hr)).1 (S++Ds)
   have eL:(S++Ds).length=S.length+i:=by rw[zak,hDl]
   have et:Y.take (i+1)=Y.take i++[r]:=by rw[zeB,hr];rfl
   have lt:(Y.take i).length=i:=by have:=(zae.mp hr).1;rw[zaB];omega
   rw[eL] at e1;refine⟨[some uT,some r.t],.hd (S.length+i),S++Ds++[.gQ (pc (.int (r.e.nN u)) x2 x3 (.int (ki r.e)) x5)],rfl,?_,⟨_,rfl⟩,by rw[List.range_succ,zaF];rfl,Ds++[.gQ (pc (.int (r.e.nN u)) x2 x3 (.int (ki r.e)) x5)],by rw[zbJ],by rw[zak,hDl];rfl,λj q hj=>?_⟩
   ·unfold dU.t
    generalize r.e.t=et0 at *
    simp?[e1]
   ·rw[et] at hj
    by_cases hji:j<i
    ·rw[zaj (by omega)] at hj
     obtain⟨y2,y3,y5,e2⟩:=hC j q hj;exact⟨y2,y3,y5,pJ e2 _⟩
    ·have ani:j=i:=by
      have:=(zae.mp hj).1
      simp at this
      omega
     subst ani;rw[zat (by omega),lt,zeX] at hj
     cases hj;refine⟨x2,x3,x5,?_⟩
     rw[<-eL];exact ie _ _)
 rw[zaf] at hDl hC;rw[zbr] at hC;have hrd:∀(f:B->Int) (K:Str),(∀r∈Y,∀j x2 x3 x5,(S++Ds)[S.length+j]? = some (.gQ (pc (.int (r.e.nN u)) x2 x3 (.int (ki r.e)) x5))->jI (.hd (S.length+j)) (.str K) (S++Ds) = .ok (.int (f r.e)) (S++Ds))->∀Z,cS (λ_=>True) (bI 0) fY (ai jI (aa 0) (mC (.str K))) ((List.range Y.length).map λj=>Tr.hd (S.length+j)) [none] [] (S++Ds)=Z->Z = .ok (Y.map λr=>.int (f r.e)) (S++Ds):=λf K hf Z hZ=>by
  obtain⟨e_,bO,S',⟨_,rfl,rfl⟩,rfl⟩:=nj hZ (λi τ bO S'=>(∃v,τ=[v])/\bO=(Y.take i).map (λr=>Tr.int (f r.e))/\S'=S++Ds) (λ_ _ _ _ _=>trivial) ⟨⟨_,rfl⟩,by simp,rfl⟩ (by simp;omega) (by
   rintro i t τ bO S' ht ⟨⟨v,rfl⟩,rfl,rfl⟩
   rw[zar] at ht;by_cases hi:i<Y.length
   ·rw[zdt hi] at ht
    cases ht;have hx:=zac hi
    obtain⟨x2,x3,x5,e2⟩:=hC i _ hx;have e3:=hf _ (zbA hi) i x2 x3 x5 e2
    have et:Y.take (i+1)=Y.take i++[Y[i]]:=by rw[zeB,hx];rfl
    refine⟨[some (.hd (S.length+i))],.int (f Y[i].e),S++Ds,rfl,?_,⟨_,rfl⟩,by rw[et,zaF];rfl,rfl⟩
    simp?[↓e3]
   ·rw[List.getElem?_eq_none (by simpa using hi)] at ht
    cases ht)
  rw[zaf,List.length_range,zbr]
 have h1:=hrd (λb=>b.nN u) "team" (λr _ j x2 x3 x5 q=>by
  unfold jI F7 mH;have ek:gU (.str (Str.ofString "team"))=some (.inr (Str.ofString "team")):=rfl
  simp only[q,ek,ane]) _ rfl
 have h2:=hrd ki "fair" (λr _ j x2 x3 x5 q=>by
  unfold jI F7 mH;have ek:gU (.str (Str.ofString "fair"))=some (.inr (Str.ofString "fair")):=rfl
  simp only[q,ek,anf]) _ rfl
 have s1:∀(f:dU->Int) (S:Cs),tU [.ls (Y.map λr=>Tr.int (f r))] S = .ok (.int (Y.map f).sum) S:=λf S=>by
  unfold tU;simp only[vW,mW]
 have YZ:(S++Ds)[d]? = some (.aV L):=pJ hd _
 have hLz:(L.length<sizeLine)=True:=kR (by omega)
 have i1:=mW (λr:dU=>r.e.nN u) Y
 have i2:=mW (λr:dU=>ki r.e) Y
 have t1:(vP u Y).1=(Y.map λr=>r.e.nN u).sum:=rfl
 have t2:(vP u Y).2=(Y.map λr=>ki r.e).sum:=rfl
 have ea:iS (X.map dU.t) (k:Int)=some r0.t:=eZ (by rw[zar,h0];rfl)
 have i0:∀S,aZ r0.t (.int 0) S = .ok (.int r0.a) S:=λ_=>rfl
 rw[t1,t2];refine⟨some (.ls ((List.range Y.length).map λj=>Tr.hd (S.length+j))),some (.int (Y.map λr=>r.e.nN u).sum),Ds,?_⟩
 rw[zaf];simp?[↓i0,h1,i1,h2,i2,YZ,hLz,ea]
theorem ad4 (r:dU)(S:Cs):vX r.t (some 3) (some 5) S = .ok (.tp [.str r.f,.str r.o]) S:=by
 show (if ¬ (HT.gj 8 0 (some 3)=0/\HT.gj 8 8 (some 5)=8) then R.ok (Tr.tp (wL [.int r.a,.int r.b,.int r.c,.str r.f,.str r.o,.str r.w,r.e.t,.str r.q] (some 3) (some 5))) S else R.ay)=_
 rw[if_pos (by decide)];rfl
theorem ad5 (l m:List Tr)(S:Cs):Ja false (.ls l) (.ls m) S=if l.all dQ=true/\m.all dQ=true then .ok (.bl (if false=true then !rR l m else rR l m)) S else .ay:=rfl
theorem X_ (a b x y:Str)(S:Cs):Ja false (.ls [.str a,.str b]) (.ls [.str x,.str y]) S = .ok (.bl (decide (a=x/\b=y))) S:=by
 have:rR [.str a,.str b] [.str x,.str y]=decide (a=x/\b=y):=by
  rw[zaK];simp[rR,P6]
 rw[ad5,if_pos ⟨rfl,rfl⟩,if_neg zag,this]
noncomputable def C43:En->Cs->R Bool:=(jG (mB (ai Kh (aa 5) (bA gy (af (aa 1) aj)))) (jG (mB (ai (cE false) (ai aZ (ai aZ (aa 1) (aa 5)) (mC (.int 0))) (ai aZ (ai aZ (aa 1) (aa 3)) (mC (.int 0))))) (mB (ai (Ja false) (bA kU (af (Kn vX (ai aZ (aa 1) (aa 5)) (gV (mC (.int 3))) (gV (mC (.int 5)))) aj)) (aa 4)))))
noncomputable def B43:Sm:=(aR 5 (ai c_ (aa 5) (mC (.int 1))))
theorem anj {X:List dU}{k:Nat}{r0:dU}(h0:X[k]? = some r0)(hl:X.length<=1000)(uT:Tr)(d:Nat)(v6 v7:Option Tr)(S:Cs):
  ∃e,k<e/\e<=X.length/\(∀j r,k<=j->j<e->X[j]? = some r->ky r=ky r0)/\(∀r,X[e]? = some r->ky r≠ky r0) /\
   mP C43 B43 1002 [some uT,some (.ls (X.map dU.t)),some (.hd d),some (.int k),some (.ls [.str (oN r0.f r0.o),.str (nK r0.f r0.o)]),some (.int k),v6,v7] S = .nx [some uT,some (.ls (X.map dU.t)),some (.hd d),some (.int k),some (.ls [.str (oN r0.f r0.o),.str (nK r0.f r0.o)]),some (.int e),v6,v7] S:=by
 have hk:=(zae.mp h0).1
 have a0:iS (X.map dU.t) (k:Int)=some r0.t:=eZ (by rw[zar,h0];rfl)
 have i0:∀(r:dU) S,aZ r.t (.int 0) S = .ok (.int r.a) S:=λ_ _=>rfl
 have hz:(X.length<=sizeLine)=True:=bJ (by omega)
 obtain⟨lQ,S',⟨rfl,e,rfl,h1,h2,h3,h4⟩,e2⟩:=ou (c:=C43) (f:=B43) (λm τ S'=>S'=S/\∃e:Nat,τ=[some uT,some (.ls (X.map dU.t)),some (.hd d),some (.int k),some (.ls [.str (oN r0.f r0.o),.str (nK r0.f r0.o)]),some (.int e),v6,v7]/\k<=e/\e<=X.length/\m=X.length - e/\∀j r,k<=j->j<e->X[j]? = some r->ky r=ky r0)
  (λτ S'=>S'=S/\∃e:Nat,τ=[some uT,some (.ls (X.map dU.t)),some (.hd d),some (.int k),some (.ls [.str (oN r0.f r0.o),.str (nK r0.f r0.o)]),some (.int e),v6,v7]/\k<=e/\e<=X.length/\(∀j r,k<=j->j<e->X[j]? = some r->ky r=ky r0)/\(∀r,X[e]? = some r->ky r≠ky r0)) (by
  rintro m τ S' ⟨rfl,e,rfl,q1,q2,q3,q4⟩
  unfold C43 B43;by_cases he:e<X.length
  ·obtain⟨r,hr⟩:∃r,X[e]? = some r:=⟨_,zac he⟩
   have ae:iS (X.map dU.t) (e:Int)=some r.t:=eZ (by rw[zar,hr];rfl)
   have jR:((e:Int)<(X.length:Int))=True:=eq_true (by omega)
   by_cases hy:ky r=ky r0
   ·right
    have y1:(r.a=r0.a)=True:=eq_true (congrArg (·.1) hy)
    have y2:(oN r.f r.o=oN r0.f r0.o/\nK r.f r.o=nK r0.f r0.o)=True:=eq_true ⟨congrArg (·.2.1) hy,congrArg (·.2.2) hy⟩
    refine⟨by omega,?_,[some uT,some (.ls (X.map dU.t)),some (.hd d),some (.int k),some (.ls [.str (oN r0.f r0.o),.str (nK r0.f r0.o)]),some (.int ((e+1:Nat):Int)),v6,v7],S',?_,rfl,e+1,rfl,by omega,by omega,by omega,λj r' j1 j2 j3=>?_⟩
    ·simp?[jR,zaf,hz,ae,a0,↓i0,↓ad4,↓vQ,↓X_,y1,y2,-vX]
    ·simp only[↓bp,bx,simprocAttr]
     rfl
    ·by_cases hj:j=e
     ·subst hj;rw[hr] at j3;cases j3;exact hy
     ·exact q4 j r' j1 (by omega) j3
   ·left
    refine⟨?_,rfl,e,rfl,q1,q2,q4,λr' h'=>by rw[hr] at h';cases h';exact hy⟩
    by_cases y1:r.a=r0.a
    ·have y2:¬ (oN r.f r.o=oN r0.f r0.o/\nK r.f r.o=nK r0.f r0.o):=λz=>hy (by unfold ky;rw[y1,z.1,z.2])
     have y1:=eq_true y1;simp?[jR,zaf,hz,ae,a0,↓i0,↓ad4,↓vQ,↓X_,y1,y2,-vX]
    ·simp?[jR,zaf,hz,ae,a0,↓i0,y1]
  ·left
   have jR:¬ ((e:Int)<(X.length:Int)):=by omega
   refine⟨?_,rfl,e,rfl,q1,q2,q4,λr' h'=>absurd (zae.mp h').1 he⟩
   simp?[jR,zaf,hz]) 1002 (X.length - k) _ S (by omega) ⟨rfl,k,rfl,zah _,by omega,rfl,λj r j1 j2=>by omega⟩
 refine⟨e,?_,h2,h3,h4,e2⟩
 rcases Nat.lt_or_eq_of_le h1 with q|q
 ·exact q
 ·subst q;exact absurd rfl (h4 _ h0)
noncomputable def D43:Sm:=(ao (aR 4 (bA kU (af (Kn vX (ai aZ (aa 1) (aa 3)) (gV (mC (.int 3))) (gV (mC (.int 5)))) aj))) (ao (aR 5 (aa 3)) (ao (oh 1002 C43 B43) F43)))
theorem ad6:Hq=dI OJ (ao (aR 2 (o9 aj)) (ao (aR 3 (mC (.int 0))) (ao (oh 1002 (mB (ai Kh (aa 3) (bA gy (af (aa 1) aj)))) D43) (aE (aa 2))))):=rfl
theorem ad7 {u:U}{X:List dU}(hk:∀r∈X,Rk r)(hl:X.length<=1000){k:Nat}{r0:dU}(h0:X[k]? = some r0)(hb:∀r,(X.take k).getLast? = some r->ky r≠ky r0){S J:Cs}(v4 v5 v6 v7:Option Tr):
  ∃e w4 w5 w6 w7 J2,k<e/\e<=X.length/\(∀r r',(X.take e).getLast? = some r->X[e]? = some r'->ky r≠ky r') /\
   D43 [some u.t,some (.ls (X.map dU.t)),some (.hd S.length),some (.int k),v4,v5,v6,v7] (S++Ce.aV ((k_ u (X.take k)).map gM)::J) = .nx [some u.t,some (.ls (X.map dU.t)),some (.hd S.length),some (.int e),w4,w5,w6,w7] (S++Ce.aV ((k_ u (X.take e)).map gM)::J2):=by
 have a0:iS (X.map dU.t) (k:Int)=some r0.t:=eZ (by rw[zar,h0];rfl)
 obtain⟨e,h1,h2,h3,h4,h5⟩:=anj h0 hl u.t S.length v6 v7 (S++Ce.aV ((k_ u (X.take k)).map gM)::J)
 have hd:(S++Ce.aV ((k_ u (X.take k)).map gM)::J)[S.length]? = some (.aV ((k_ u (X.take k)).map gM)):=by simp
 have hk':=(zae.mp h0).1
 have hL:((k_ u (X.take k)).map gM).length<1000:=by have:=As u (X.take k);rw[zaB] at this;rw[zaf];omega
 obtain⟨w6,w7,J2,h6⟩:=ad3 (u:=u) (zdg h1) rfl (λr hr=>hk r (zeG (zeH hr))) hl (by rw[zck,zaB];omega) h0 hd hL (oN r0.f r0.o) (nK r0.f r0.o) v6 v7 (e:=e)
 have et:X.take e=X.take k++(X.take e).drop k:=by
  have:=List.take_append_drop k (X.take e)
  rw[List.take_take,zdo (zdg h1)] at this;exact this.symm
 have hY:∀r∈(X.take e).drop k,ky r=ky r0:=λr hr=>by
  obtain⟨j,hj⟩:=List.mem_iff_getElem?.mp hr
  rw[List.getElem?_drop,List.getElem?_take] at hj;split at hj
  ·exact h3 (k+j) r (by omega) (by omega) hj
  ·cases hj
 have qj:(X.take e).drop k≠[]:=λz=>by
  have:=congrArg List.length z
  rw[zck,zaB] at this;simp at this
  omega
 have ep:=UB u (X.take k) (ky r0) hb ((X.take e).drop k) qj hY
 rw[<-et] at ep;refine⟨e,some (.ls [.str (oN r0.f r0.o),.str (nK r0.f r0.o)]),some (.int e),w6,w7,J++J2,h1,h2,λr r' g1 g2=>?_,?_⟩
 ·have:ky r=ky r0:=by
   rw[List.getLast?_eq_getElem?,zaB,zdo h2,List.getElem?_take] at g1;split at g1
   ·exact h3 (e - 1) r (by omega) (by omega) g1
   ·cases g1
  rw[this];exact λz=>h4 r' g2 z.symm
 ·rw[ep,zaF]
  have es:((S++Ce.aV ((k_ u (X.take k)).map gM)::J)++J2).set S.length (.aV ((k_ u (X.take k)).map gM++[.tp [.int r0.a,.str (oN r0.f r0.o),.str (nK r0.f r0.o),.int (vP u ((X.take e).drop k)).1,.int (vP u ((X.take e).drop k)).2]]))=S++Ce.aV ((k_ u (X.take k)).map gM++[(ky r0,vP u ((X.take e).drop k))].map gM)::(J++J2):=by
   rw[zbJ,zdf _ _ (zah _),zeX];rfl
  rw[es] at h6;generalize S++Ce.aV ((k_ u (X.take k)).map gM)::J=S1 at *
  unfold D43;simp?[a0,↓ad4,↓vQ,oh,h5,h6,-vX]
theorem aje {u:U}{X:List dU}(hk:∀r∈X,Rk r)(hl:X.length<=1000)(S:Cs):∃S',Hq [u.t,.ls (X.map dU.t)] S = .ok (.hd S.length) S'/\S'[S.length]? = some (.aV ((k_ u X).map gM))/\oz S S':=by
 have hB:=λ(k:Nat) (r0:dU) (h0:X[k]? = some r0) (hb:∀r,(X.take k).getLast? = some r->ky r≠ky r0) (J:Cs) (v4 v5 v6 v7:Option Tr)=>ad7 (u:=u) hk hl h0 hb (S:=S) (J:=J) v4 v5 v6 v7
 rw[ad6];generalize D43=D at *
 obtain⟨uT,HE⟩:∃uT,uT=u.t:=⟨_,rfl⟩
 rw[<-HE];simp only[<-HE] at hB;have hz:(X.length<=sizeLine)=True:=bJ (by omega)
 simp only[↓bp,bx,simprocAttr];generalize hZ:oh _ _ _ _ _=Z
 obtain⟨lQ,S',⟨v4,v5,v6,v7,J,rfl,rfl⟩,rfl⟩:=Eh hZ (λm τ S'=>∃(k:Nat) (v4 v5 v6 v7:Option Tr) (J:Cs),τ=[some uT,some (.ls (X.map dU.t)),some (.hd S.length),some (.int k),v4,v5,v6,v7]/\S'=S++Ce.aV ((k_ u (X.take k)).map gM)::J/\k<=X.length/\X.length - k<=m/\(∀r r',(X.take k).getLast? = some r->X[k]? = some r'->ky r≠ky r'))
  (λτ S'=>∃(v4 v5 v6 v7:Option Tr) (J:Cs),τ=[some uT,some (.ls (X.map dU.t)),some (.hd S.length),some (.int X.length),v4,v5,v6,v7]/\S'=S++Ce.aV ((k_ u X).map gM)::J) X.length (by omega) ⟨0,none,none,none,none,[],rfl,rfl,by omega,by omega,λr r' h=>by simp at h⟩ (by
  rintro m τ S' ⟨k,v4,v5,v6,v7,J,rfl,rfl,q1,q2,q3⟩
  by_cases jR:k<X.length
  ·right
   obtain⟨r0,hr⟩:∃r,X[k]? = some r:=⟨_,zac jR⟩
   obtain⟨e,w4,w5,w6,w7,J2,g1,g2,g3,g4⟩:=hB k r0 hr (λr h=>q3 r r0 h hr) J v4 v5 v6 v7
   have hc:((k:Int)<(X.length:Int))=True:=eq_true (by omega)
   refine⟨by omega,?_,_,_,g4,e,w4,w5,w6,w7,J2,rfl,rfl,g2,by omega,g3⟩
   simp?[hc,zaf,hz]
  ·left
   have hkl:k=X.length:=by omega
   subst hkl;have hc:¬ ((X.length:Int)<(X.length:Int)):=by omega
   refine⟨?_,v4,v5,v6,v7,J,rfl,by rw[zbr]⟩
   simp?[hc,zaf,hz])
 refine⟨S++Ce.aV ((k_ u X).map gM)::J,?_,by simp,⟨_,rfl⟩⟩
 simp only[↓bp,bx,simprocAttr]
theorem Yb:∀{l:List Tr},(∀t∈l,t.dp<=n)->Tr.C6 l<=n
 |[],_=>by unfold Tr.C6;exact zcA _
 |t::l,h=>by
  unfold Tr.C6;exact Nat.max_le.mpr ⟨h t (by simp),Yb λu hu=>h u (by simp[hu])⟩
theorem Pz:∀{l:List Tr} {t:Tr},t∈l->t.dp<=Tr.C6 l
 |u::l,t,h=>by
  unfold Tr.C6;rcases zap.mp h with rfl|h
  ·exact Nat.le_max_left ..
  ·exact zai (Pz h) (Nat.le_max_right ..)
theorem Yc (S:Cs):∀(n:Nat) (t:Tr),t.qu=true->t.dp<=n->vw n S t=t
 |0,t,_,_=>by cases t<;>rfl
 |n+1,t,h,hd=>by
  have key:∀l:List Tr,Tr.o_ l=true->Tr.C6 l<=n->l.map (vw n S)=l:=λl h1 h2=>by
   rw[pG,zaM] at h1;have:l.map (vw n S)=l.map _root_.id:=zcJ λt ht=>Yc S n t (h1 t ht) (zai (Pz ht) h2)
   rw[this,List.map_id]
  cases t with
  |tp l =>
   unfold Tr.qu at h;unfold Tr.dp at hd;show Tr.tp (l.map (vw n S))=_
   rw[key l h (by omega)]
  |ls l =>
   unfold Tr.qu at h;unfold Tr.dp at hd;show Tr.ls (l.map (vw n S))=_
   rw[key l h (by omega)]
  |hd i=>unfold Tr.qu at h;cases h
  |kl l=>unfold Tr.qu at h;cases h
  |kt l=>unfold Tr.qu at h;cases h
  |_=>rfl
noncomputable def HG (S:Cs)(t:Tr)(l:List Tr):Prop:=t = .ls l\/∃k,t = .hd k/\S[k]? = some (.aV l)
theorem HG.vw (h:HG S t l)(hn:Tr.o_ l=true)(hd:Tr.C6 l<=5):vw 6 S t = .ls l:=by
 have key:l.map (L2.vw 5 S)=l:=by
  rw[pG,zaM] at hn;have:l.map (L2.vw 5 S)=l.map _root_.id:=zcJ λt ht=>Yc S 5 t (hn t ht) (zai (Pz ht) hd)
  rw[this,List.map_id]
 rcases h with rfl|⟨k,rfl,hk⟩
 ·show Tr.ls (l.map (L2.vw 5 S))=_
  rw[key]
 ·show (match cO S k with|some l=>Tr.ls (l.map (L2.vw 5 S))|none=>.hd k)=_
  have:cO S k=some l:=by unfold cO;rw[hk]
  rw[this];simp only[key]
theorem PB (h1:HG S t1 l)(h2:HG S t2 l)(hn:Tr.o_ l=true)(hd:Tr.C6 l<=5):cE neg t1 t2 S = .ok (.bl (!neg)) S:=by
 have e1:=h1.vw hn hd;have e2:=h2.vw hn hd;have e0:L8 t1 t2=none:=by
  rcases h1 with rfl|⟨k,rfl,_⟩<;>rcases h2 with rfl|⟨k,rfl,_⟩<;>rfl
 unfold cE;rw[e0];simp only
 rw[e1,e2,if_pos];refine⟨rfl,by unfold Tr.qu;exact hn,by unfold Tr.dp;omega,by unfold Tr.dp;omega⟩
theorem UC {l:List dU}(S:Cs):cE true (.ls (l.map dU.t)) (.ls (l.map dU.t)) S = .ok (.bl false) S:=by
 refine PB (neg:=true) (.inl rfl) (.inl rfl) ?_ (Yb λt ht=>?_)
 ·rw[pG,List.all_map,zaM]
  intro _ _;rfl
 ·obtain⟨r,_,rfl⟩:=zcT.mp ht
  simp[dU.t,B.t,Tr.dp,Tr.C6]
theorem PD (n:Nat)(i:Int)(S:Cs):iP (n+1) [.int i,.int i] S = .ok (.bl true) S:=by
 unfold iP;simp only[↓bp,bx,simprocAttr]
theorem PF (n:Nat)(x:Str)(S:Cs):iP (n+1) [.str x,.str x] S = .ok (.bl true) S:=by
 unfold iP;simp?[MO]
theorem UD (hf:∀t∈l,(∃i,t = .int i)\/∃x,t = .str x)(hl:l.length<=1000)(S:Cs):iP 2 [.tp l,.tp l] S = .ok (.bl true) S:=by
 have h:=λi=>PD 0 i S
 have h':=λx=>PF 0 x S
 have c1:(l.length<=sizeLine)=True:=bJ (by omega)
 rw[iP];have ez:∀(τ:En) (fr:En->Cs->R (List Tr)),qX fr τ S=(fr τ S).az qW:=λ_ _=>rfl
 have ek:∀l m:List Tr,qW [.tp l,.tp m] S = .ok ⟨pH l m,λ_=>True⟩ S:=λ_ _=>rfl
 simp?[ez,ek,beq_self_eq_true,c1];generalize hZ:jL _ _ _ _ _ _=Z
 obtain⟨lQ,S',⟨⟨x2,x3,rfl⟩,rfl⟩,rfl⟩:=ni hZ (λi τ S'=>(∃x2 x3,τ=[some (Tr.tp l),some (Tr.tp l),x2,x3])/\S'=S) (λ_ _ _ _=>trivial) ⟨⟨_,_,rfl⟩,rfl⟩ (by
  rintro i u τ S' hi ⟨⟨x2,x3,rfl⟩,rfl⟩
  obtain⟨u1,u2,h1,h2,rfl⟩:=pI hi;rw[h1] at h2;cases h2;have e1:iP 1 [u1,u1] S' = .ok (.bl true) S':=by
   rcases hf u1 (zaR h1) with⟨i,rfl⟩|⟨x,rfl⟩
   ·exact h i
   ·exact h' x
  exact⟨_,_,.inl (by simp?[e1];rfl),⟨_,_,rfl⟩,rfl⟩)
 simp only[↓bp,bx,simprocAttr]
theorem PK (p:PR)(S:Cs):iP 2 [gM p,gM p] S = .ok (.bl true) S:=
 UD (λt ht=>by
  simp only[zap,zaC,or_false] at ht;rcases ht with rfl|rfl|rfl|rfl|rfl
  ·exact .inl ⟨_,rfl⟩
  ·exact .inr ⟨_,rfl⟩
  ·exact .inr ⟨_,rfl⟩
  all_goals exact .inl ⟨_,rfl⟩) (by simp) S
theorem UE:qW [.hd a,.hd b] S=abc [.hd a,.hd b] S:=rfl
theorem CS {L:List PR}{a b:Nat}{S:Cs}(ha:S[a]? = some (.aV (L.map gM)))(hb:S[b]? = some (.aV (L.map gM)))(hl:L.length<=1000):iP 3 [.hd a,.hd b] S = .ok (.bl true) S:=by
 have es:=λp S=>PK p S
 rw[iP];have c1:(L.length<=sizeLine)=True:=bJ (by omega)
 simp?[ha,hb,MQ,beq_self_eq_true,c1,MP,ahv,UE];generalize hZ:jL _ _ _ _ _ _=Z
 obtain⟨lQ,S',⟨⟨x2,x3,rfl⟩,rfl⟩,rfl⟩:=ni hZ (λi τ S'=>(∃x2 x3,τ=[some (Tr.hd a),some (Tr.hd b),x2,x3])/\S'=S) (by rintro i τ S' ⟨_,rfl⟩;simp only[ha,hb,cO,and_self]) ⟨⟨_,_,rfl⟩,rfl⟩ (by
  rintro i u τ S' hi ⟨⟨x2,x3,rfl⟩,rfl⟩
  obtain⟨u1,u2,h1,h2,rfl⟩:=pI hi;rw[h1] at h2;cases h2;rw[zar] at h1;obtain⟨p,rfl⟩:∃p,u1=gM p:=by
   cases e:L[i]? with
   |none=>rw[e] at h1;cases h1
   |some p=>rw[e] at h1;cases h1;exact⟨p,rfl⟩
  have e1:=es p S';generalize gM p=rp at *
  exact⟨_,_,.inl (by simp?[e1];rfl),⟨_,_,rfl⟩,rfl⟩)
 simp only[↓bp,bx,simprocAttr]
theorem law (ns:List Int)(Il:ns.length<=63):∃S,OO [.kl (ns.map .int)] [] = .ok (.bl true) S:=by
 obtain⟨c,e1,hD0⟩:=Uw ns Il []
 have e1:Cr [.kl (ns.map .int)] [] = .ok (.hd 0) ([]++[c]):=e1
 have hD0:cD ([]++[c]) 0 0:=hD0
 generalize ([]:Cs)++[c]=S0 at *
 obtain⟨u,S1,dd,N,a,m,y,rs,e2,P⟩:=Pq hD0 (by decide)
 have e3:=ai4 P.gX P.fH;have ha:=P.gX.a;rw[P.a] at e3 ha;rw[P.fH] at e3;unfold mF at ha;have hrl:rs.length<=1000:=by have:=P.D.z.fH;have:=P.D.hn;rw[P.fH,zaf] at *;omega
 obtain⟨X,S2,e4,D2,Iu,cJ⟩:=adZ P.dr (by decide) rs hrl
 have hk:∀r∈X,Rk r:=λr hr=>P.rk r (Iu r hr)
 have xl:X.length<=1000:=by omega
 obtain⟨S3,e5,c3,J3,hJ3⟩:=aje (u:=u) hk xl S2
 have e6:=X8 (u:=u) xl S3
 have c4:(S3++[Ce.aV ((k_ u X).map gM)])[S3.length]? = some (.aV ((k_ u X).map gM)):=ie _ _
 obtain⟨n4,hn4⟩:∃n4,n4=S3.length:=⟨_,rfl⟩
 obtain⟨S4,hJ4⟩:∃S4,S4=S3++[Ce.aV ((k_ u X).map gM)]:=⟨_,rfl⟩
 rw[<-hJ4,<-hn4] at e6 c4;have c3':S4[S2.length]? = some (.aV ((k_ u X).map gM)):=by rw[hJ4];exact pJ c3 _
 have tl:(k_ u X).length<=1000:=by have:=As u X;omega
 have e7:=CS c4 c3' tl;have e8:=UC (l:=X) S4
 have lc:S2.length<S3.length:=bB c3
 have qj:n4≠S2.length:=by omega
 have c5:(S4.set n4 (.aV []))[S2.length]? = some (.aV ((k_ u X).map gM)):=by rw[zaA qj];exact c3'
 have e9:=X8 (u:=u) xl (S4.set n4 (.aV []))
 have c6:(S4.set n4 (.aV [])++[Ce.aV ((k_ u X).map gM)])[(S4.set n4 (.aV [])).length]? = some (.aV ((k_ u X).map gM)):=ie _ _
 obtain⟨n6,hn6⟩:∃n6,n6=(S4.set n4 (.aV [])).length:=⟨_,rfl⟩
 obtain⟨S6,hJ6⟩:∃S6,S6=S4.set n4 (.aV [])++[Ce.aV ((k_ u X).map gM)]:=⟨_,rfl⟩
 rw[<-hJ6,<-hn6] at e9 c6;have c5':S6[S2.length]? = some (.aV ((k_ u X).map gM)):=by rw[hJ6];exact pJ c5 _
 have e10:=CS c6 c5' tl;have gc:tW (.hd n4) [] S4 = .ok .bw (S4.set n4 (.aV [])):=by
  unfold tW;have:cO S4 n4=some ((k_ u X).map gM):=by unfold cO;rw[c4]
  simp only[this]
 have gk:IL S4 (.hd n4)=true:=by
  unfold IL vW;have:cO S4 n4=some ((k_ u X).map gM):=by unfold cO;rw[c4]
  simp only[this];rfl
 obtain⟨uT,HE⟩:∃uT,uT=u.t:=⟨_,rfl⟩
 rw[<-HE] at e2 e5 e6 e9;refine⟨S6,?_⟩
 unfold OO;generalize S4.set n4 (.aV [])=S5 at *
 simp?[fx,e1,e2,e3,e4,ha,e5,e6,e7,↓e8,↓gc,↓gk,e9,e10]
theorem zq1 {α:Type _}{P:List α -> Prop}(h:∀a,P [a]):∀us:List α,us.length=1->P us
 |[a],_=>h a
theorem zq2 {α:Type _}{P:List α -> Prop}(h:∀a b,P [a,b]):∀us:List α,us.length=2->P us
 |[a,b],_=>h a b
theorem zq3 {α:Type _}{P:List α -> Prop}(h:∀a b c,P [a,b,c]):∀us:List α,us.length=3->P us
 |[a,b,c],_=>h a b c
theorem UY {α:Type _}{P:List α -> Prop}(h:∀a b c d,P [a,b,c,d]):∀us:List α,us.length=4->P us
 |[a,b,c,d],_=>h a b c d
theorem C2 {α:Type _}{P:List α -> Prop}(h:∀a b c d e,P [a,b,c,d,e]):∀us:List α,us.length=5->P us
 |[a,b,c,d,e],_=>h a b c d e
section
variable {K:W.Frag}{h:Heap}{mg:Str->Option Value}{C:Addr}{x bX:Str}{st:Stmt}{ps:List Str}{f:Addr}{oc:Value}{od an:Option Addr}{Du:Array (Option Value)}{kV nW pm fC ct:Value}(X:K.In h)(G:h.Ns mainGlobals mg)
include X G in
theorem dmk (hb:∀(kV nW pm:Value) (an:Option Addr) (fC ct:Value) (us:List Value),us.length=ps.length->bindArgs (W.fnOf x x (d9 st) (cR st) (ak st) .none kV nW pm an fC ct) ⟨us,[]⟩=pure (ps.zip us))(a:W.nsIn K mainGlobals x=some (some (.ref f)))(l:K.lookup f=some ⟨oc,od,.func (W.fnOf x x (d9 st) (cR st) (ak st) .none kV nW pm an fC ct),Du⟩)(c:W.codeIn K fC x=true)(k:W.keepIn K (.ref f)=true):oq K mg x st ps f (W.fnOf x x (d9 st) (cR st) (ak st) .none kV nW pm an fC ct):=⟨zc l c k,W.mg_of X G a,(zc l c k).qL hb⟩
theorem mmk (hb:∀(kV nW pm:Value) (an:Option Addr) (fC ct:Value) (us:List Value),us.length=ps.length->bindArgs (W.fnOf x bX (d9 st) (cR st) (ak st) .none kV nW pm an fC ct) ⟨us,[]⟩=pure (ps.zip us))(a:W.findIn K (.ref C) x=some (some (.ref f)))(i:W.isFn K (.ref f)=true)(l:K.lookup f=some ⟨oc,od,.func (W.fnOf x bX (d9 st) (cR st) (ak st) .none kV nW pm an fC ct),Du⟩)(c:W.codeIn K fC bX=true)(k:W.keepIn K (.ref f)=true):lG K C x bX st ps f (W.fnOf x bX (d9 st) (cR st) (ak st) .none kV nW pm an fC ct):=⟨zc l c k,⟨a,i,k⟩,(zc l c k).qL hb⟩
end
theorem anl {l:W.OpenLaw}{w:World}{K:W.Frag}{h:Heap}{mg:Str->Option Value}{fa:Addr}(X:K.In h)(G:h.Ns mainGlobals mg)(hfa:mg "law"=some (.ref fa)){BC BD BE BF uh BG xR xS xT xU xV xW xX xY x_ BH ya yb yc Je BI BJ BK BL BN BO BP yd Ey ye BQ BR Jf Jg Jh Ji Jj yf yg Jk Jl BS BU yh yi yj yk Jm ym yo yq yr yt BV BW BX BY BZ yu B0 B3 B4 B5 B6 B7 B8:Addr}{um uo uq ur uv uw ux uy uz uA uB uC uD uE uF uG uH uI uJ B9 uK uL uM uN uO uP uQ uR B_ uS uU uV Ca Cb Cc Cd Cf uW uX Cg Ci uY uZ u5 u6 u9 u_ Cj vc vd ve vf vg vh vj vm vn vo vp vq vt vz vA vD vE oA:FuncData}{aL bq:Addr}{jB z6 iV iW nq iX jC kW nu GC kX iY jD nv:Tok}(TF:TxF K mg (AdF.mk BC BD BE BF uh BG xR xS xT xU xV xW xX xY x_ BH ya yb yc Je BI BJ BK BL BN BO BP yd Ey ye BQ BR Jf Jg Jh Ji Jj yf yg Jk Jl BS BU yh yi yj yk Jm ym yo yq yr yt BV BW BX BY BZ yu B0 B3 B4 B5 B6 B7 B8 um uo uq ur uv uw ux uy uz uA uB uC uD uE uF uG uH uI uJ B9 uK uL uM uN uO uP uQ uR B_ uS uU uV Ca Cb Cc Cd Cf uW uX Cg Ci uY uZ u5 u6 u9 u_ Cj vc vd ve vf vg vh vj vm vn vo vp vq vt vz vA vD vE oA aL bq jB z6 iV iW nq iX jC kW nu GC kX iY jD nv))
  {aX:Addr} {cdB:ClassData} {nmB qB:Str} {NB:Addr} {bsB anm:List Value} {Se:Bool} {snB:List Str} {abB:Bool} {ano:Option Bool} {ddB:Option Addr} {kaB kbB kcB kdB keB:Option Value} {anp:String} {JG PM:Str} {PN bK bf:Addr} {JH Fg:List Value} {JI:List Str} {JJ:Bool} {Fi:Option Bool} {JK:Option Addr} {JL JM JN JO JP:Option Value} {Fj lg:Option Addr} {Fl:Array (Option Value)} {Fo lq ly lz jr lA:Value} {mY:Addr} {Fp:Value} {Fq:Option Addr} {JQ:Nat} {Ft:Array (Option Value)} {i8:Tok}
  (anq:W.nsIn K mainGlobals "BookError"=some (some (.ref aX)))
  (anr:W.clsIn K aX=some cdB)
  (ans:W.typeIn K (.ref aX)=some (.type "type"))
  (ant:W.specialIn K (.ref aX) "__getattribute__"=some (some (.builtin "type.__getattribute__")))
  (anu:W.readsIn K aX (.type "type")=true)
  (anv:W.findCls K (.ref aX) (.type "type") "__init__"=some (.val (.builtin "ValueError.__init__")))
  (anw:W.tailIn K rW (.ref aX::rW)=true)
  (anx:K.lookup aX=some (excClassObj nmB qB aX NB bsB rW Se snB anm abB ano ddB kaB kbB kcB kdB keB anp))
  (xgc:W.specialIn K (.builtin "object.__class__") "__get__"=some (some (.builtin "getset_descriptor.__get__")))
  (xtc:W.takesIn K (.builtin "object.__class__")=some true)
  (yK:W.nsIn K mainGlobals "NotLet"=some (some (.ref bK)))
  (JR:K.lookup bK=some (excClassObj JG PM bK PN JH (.ref aX::rW) true JI Fg JJ Fi JK JL JM JN JO JP "ValueError.__new__"))
  (JS:W.findIn K (.ref bK) "__init__"=some (some (.ref bf)))
  (JT:W.typeIn K (.ref bf)=some (.type "function"))
  (JU:W.keepIn K (.ref bK)=true)
  (JV:W.findIn K (.ref bK) "__setattr__"=some (some (.builtin "object.__setattr__")))
  (JW:W.findIn K (.ref bK) "__getattribute__"=some (some (.builtin "BaseException.__getattribute__")))
  (JX:W.findIn K (.ref bK) "__getattr__"=some none)
  (JY:W.findIn K (.ref bK) "__class__"=some (some (.builtin "object.__class__")))
  (vS:W.findIn K (.ref bK) "rule"=some none)
  (qJ:W.findIn K (.ref bK) "number"=some none)
  (JZ:K.lookup bf=some ⟨Fo,Fj,.func (W.fnOf "__init__" "NotLet.__init__" (d9 dJ) (cR dJ) (ak dJ) (.ref mY) lq ly lz lg jr lA),Fl⟩)
  (J0:W.codeIn K jr "NotLet.__init__"=true)
  (yL:K.lookup mY=some ⟨Fp,Fq,.seq #[.int 0 i8] JQ,Ft⟩)
  (J1:bK≠aX)
  : ∃fd:FuncData,(∀(s:Shared) (v:Value),BindsTo s fd ⟨[v],[]⟩ [("_law_script",v)])/\∀base:Heap,K.In base->base.Ns mainGlobals mg->aO l.prog w K mg base eS 11 fa fd ["_law_script"] (Gk K):=by
 have e:=hfa.symm.trans TF.NG.m;cases e;have CT:rX K bK bf (.ref aX::rW):=⟨⟨_,_,_,_,_,_,_,_,_,_,_,_,_,_,JR⟩,anw,JS,JT,JU,JV,JW,JX,JY,⟨_,rfl⟩⟩
 have J4:eO K (W.fnOf "__init__" "NotLet.__init__" (d9 dJ) (cR dJ) (ak dJ) (.ref mY) lq ly lz lg jr lA) ["self","words","rule","number"] []:=λs us X' hl=>by
  rw[zaw] at hl ⊢
  match us,hl with|[_,_,_,_],_=>exact W.binds_K X' rfl yL rfl rfl rfl
 have Fv:eO K (W.fnOf "__init__" "NotLet.__init__" (d9 dJ) (cR dJ) (ak dJ) (.ref mY) lq ly lz lg jr lA) ["self","words","rule","number"] [.int 0 i8]:=λs us X' hl=>by
  have Ig:us.length=3:=by simpa using hl
  match us,Ig with|[_,_,_],_=>exact W.binds_K X' rfl yL rfl rfl rfl
 have anz:∀p∈([("NotLet",bK,bf)]:List (Str×Addr×Addr)),mg p.1=some (.ref p.2.1)/\rX K p.2.1 p.2.2 (.ref aX::rW):=by
  intro p hp;simp only[zap,zaC,or_false] at hp;rcases hp with rfl
  ·exact⟨W.mg_of X G yK,CT⟩
 let a:Ad:={ toAdF:=AdF.mk BC BD BE BF uh BG xR xS xT xU xV xW xX xY x_ BH ya yb yc Je BI BJ BK BL BN BO BP yd Ey ye BQ BR Jf Jg Jh Ji Jj yf yg Jk Jl BS BU yh yi yj yk Jm ym yo yq yr yt BV BW BX BY BZ yu B0 B3 B4 B5 B6 B7 B8 um uo uq ur uv uw ux uy uz uA uB uC uD uE uF uG uH uI uJ B9 uK uL uM uN uO uP uQ uR B_ uS uU uV Ca Cb Cc Cd Cf uW uX Cg Ci uY uZ u5 u6 u9 u_ Cj vc vd ve vf vg vh vj vm vn vo vp vq vt vz vA vD vE oA aL bq jB z6 iV iW nq iX jC kW nu GC kX iY jD nv,aX:=aX,bK:=bK,bf:=bf,eE:=W.fnOf "__init__" "NotLet.__init__" (d9 dJ) (cR dJ) (ak dJ) (.ref mY) lq ly lz lg jr lA,i8:=i8}
 have T:Txt K mg a:={
  toTxF:=TF
  Er:=⟨W.mg_of X G anq,⟨ant,anu,anv⟩,by show (W.clsIn K aX).isSome=true;rw[anr];rfl,ans,⟨_,_,_,_,_,_,_,_,_,_,_,_,_,_,_,_,anx⟩,⟨xgc,xtc⟩,anz⟩
  gr:=⟨CT,W.mg_of X G yK,J4,⟨_,_,_,_,_,_,_,_,_,_,_,rfl,JZ,J0⟩⟩
  yx:=Fv
  mR:=vS
  j9:=qJ
  Jq:=J1
 }
 obtain⟨_,_,_,_,_,_,_,_,_,ef,_⟩:=TF.NG.F.ex;exact⟨oA,λs v=>by rw[show oA=_ from ef];exact .of_eq rfl,λbase _ _=>aaw (acq T) law⟩
theorem walk {l:W.OpenLaw}{q:Program}{xr:List Str}{XP:(Str->Option Value)->Heap->Prop}{YP:World->Heap->Prop}{d:DefRec}{K:Params->W.Frag}(hn:l.most=some 63)(hdf:d.params.defaults=[])
  (hY:∀(w:World) (h:Heap),YP w h->(K w.params).In h)
  (F:∀(w:World) (mg:Str->Option Value) (fa:Addr) (h:Heap),(K w.params).In h->h.Ns mainGlobals mg->mg d.name=some (.ref fa) ->
   ∃fd:FuncData,(∀(s:Shared) (u:Value),BindsTo s fd ⟨[u],[]⟩ [("_law_script",u)])/\∀base:Heap,(K w.params).In base->base.Ns mainGlobals mg->aO l.prog w (K w.params) mg base eS 11 fa fd ["_law_script"] (Gk (K w.params))):
  W.WalkO q xr XP YP l.row.toRowW d [] (λf vs=>PySem.call f vs):=
 L2.Q3 (n:=63) (k:=11) (x:= "_law_script") (CX:=λ_=>eS) (sp:=λw=>Gk (K w.params)) hn (by decide) hdf ⟨rfl,by decide,by decide⟩ hY F (λ_ _ a ns hl _ hS=>⟨a,ns,rfl,hS,hl,λ_=>rfl⟩) λ_ _ _ _ _ z=>z
end My
structure PySem.W.Fast:Prop where(tw12255649893195449316 tw16068497701526793229 tw17999802714865420013 tw12775851888036181337 tw6448397972255275720 tw2891360032673457657 tw15013973366843082349 tw4354786102410126929 tw16138427393382330050 tw9122397742993969985 tw7737706251187989358 tw18162633608318582123 tw17236942762068883423 tw3990238442468195759 tw14677794350007082286 tw14884634035053948960 tw17202485755833973849 tw16057439817683445951 tw15069056271087816971 tw2503632431500234797 tw10981788805909485914 tw7292064459729778934 tw3793319179358658057 tw17011634254489117044 tw5631434005474955919 tw924502643634950086 tw6741948415693809396 tw4049122939160422222 tw6304857126694101081 tw16432069863724822329 tw16148409754055768182 tw5052803517199692888 tw11144333714124301347 tw4899281750022079425 tw9231101714516571585 tw2544958255222446515 tw15878260469974899594 tw4052068020532004309 tw12744886412911175236 tw14819487997016341514 tw8177699724191977619 tw11368464247472327794 tw17447583637999747933 tw14602224620279755829 tw17657717344210363983 tw13292375944562344660 tw11797861286374918287 tw14003444372693399396 tw15335061579581635963 tw1606210471469784174 tw6702597764687473044 tw3128508455277761357 tw12812551881024509223 tw3467186591753750751 tw4756741592775818529 tw7120175369325003944 tw7862266995520470658 tw7524844841864244088 tw9087645793478959843 tw3155737085782152184 tw11868928656505918847 tw2783987341904796632 tw11439296726615641918 tw979320476893713107 tw4071436987431003039 tw7791984581355688815 tw9944440701365551092 tw5183968412676461445 tw17821646108383504639 tw2213883697299364797 tw14589483624148382457 tw6831181455338794621 tw12473230518677243003 tw13009863088578927760 tw14348887159867797145 tw5554147482084564009 tw2029463731534031495 tw9364352170043129770 tw7791062951500117105 tw17040210121406360852 tw436364838914539871 tw16765291338858425764 tw4307627657781895378 tw5148721594997560725 tw3048587064814150904 tw4791652822594598704 tw655538346091407242 tw848279872859351547 tw11513508134346273930 tw6571615617262839730 tw11380115008611574271 tw7827267154477716548 tw7626415279157803734 tw10869024878483583024 tw17102731604230393295 tw10805525567088516019 tw1606440333353734370 tw13315336355479579754 tw3776511907889501445 tw12997992662367743443 tw13862937193365380871 tw3269283937411198269 tw2758137289778085867 tw12176902190864139079 tw11125369201687767286 tw16514158594729149046 tw10275112733143084285 tw16828840551614727436 tw2530137987429780248 tw9310782221224094202 tw11899869393705126938 tw13967529775028495599 tw5437965204307500662 tw2473091122924081007 tw14275004426227642131 tw9308419410680230668 tw10013425574897351463 tw7906277128309569100 tw11145088220008945327 tw5695726899055526850 tw5775084942067943119 tw6371786542942625782 tw8340663037832329949 tw878350420142433646 tw11734346415680283904 tw12237756470127113422 tw12736721542061919914 tw8735925036698241312 tw3184132229373992385 tw3764644416248893699 tw17681070253375601653 tw3901335056765894986 tw13103497094156551668 tw10758447320135311297 tw2842097211535277169 tw1459016393174757546 tw15397117277439183879 tw13630825996630673590 tw6965654595300532476 tw12846746568509058722 tw11267845712241523337 tw4861969942101981845 tw6579087264959938552 tw13061644853607625738 tw9683354029640781256 tw6276999411232077409 tw10816656879191563340 tw14498345535112338036 tw404599348609198098 tw458606658601602719 tw3313550939761648867 tw8271070665576734675 tw483069574756987000 tw15632024694294919290 tw16229942345469161509 tw11824581942136703581 tw5083189181355414493 tw15034180207839567500 tw5512427038264296475 tw8800759411679680122 tw131209314420506033 tw8335009982603288696 tw13386800669400840698 tw519624787492186239 tw17811784225930531596 tw3246939797658186347 tw5058188655867651241 tw9633485065308004884 tw11387326952836946925 tw11955460131533523557 tw7520989331132596195 tw11672942459594444985 tw16954674747212710196 tw16347702454644764969 tw3331583781694333482 tw7135831074632861527 tw1592860372465788817 tw14207311907570922128 tw826742534787687096 tw11903232275177577026 tw10347538003873161152 tw15302477690613089580 tw7289766681472620033 tw5548894343571321136 tw4407341345536223278 tw13706416643101533268 tw16073653054669263153 tw58051639277442166 tw8748258873157527901 tw6599274398791535629 tw16014350811900168175 tw4369456600222656129 tw68813062649813277 tw12241890084602196478 tw9482443270982341570 tw6065974869645328760 tw14312396050909015147 tw16095269382470168353 tw13557336945572585623 tw18238962534717555884 tw15242166734193238503 tw5470121690152401217 tw10689881244293411624 tw8981499031574282177 tw15884298460094833811 tw5394140134918985378 tw11897241780855193309 tw1068551405096814680 tw10829194898152774064 tw6308002913469640673 tw5211304782256098638 tw6714813155003386330 tw10591866538907089379 tw10403008200385720432 tw3595844176855695326 tw7555281119248276551 tw11916455390071677078 tw11415399948604214960 tw14679740354564043401 tw4771431428569740152 tw4459537454293204610 tw6836356466520040139 tw3584461801116389104 tw14724001366512806166 tw1759211830329582136 tw13206582968511899682 tw13833968060482403275 tw9203409345246411860 tw4099959646906941952 tw16178529163669961042 tw1417376293070118344 tw11163786755989918058 tw17430113820300422623 tw15811825545021973711 tw12789884342491441948 tw7958979418673833071 tw444205669035834790 tw5457167255733914732 tw14391340253979430225 tw8625885609616884319 tw14372400359257171897 tw8494444237951385622 tw13443873326283144828 tw2341873151420043147 tw2490386995078202342 tw11325833956448702286 tw3028086940402690508 tw5007200852233533736 tw11284893521695580214 tw17554264551645627705 tw4226617264622896128 tw7759103808795222421 tw10981986198675553341 tw3571514326943525085 tw1251313147320341754 tw11565117004992809093 tw12019694843238236529 tw13711260843317110096 tw6659988733268600015 tw9112770558373334649 tw7803771251141935207 tw17638963276761441473 tw14937088994603540288 tw14237043319955749504 tw8226249670734288393 tw18030565307506314964 tw13916430784870384301 tw5953873952681646182 tw5227969207840130795 tw10604922613841255512 tw3638009785276571042 tw9747011068079207514 tw596643236701573521 tw13199494873237688142 tw7403852761061671870 tw17650648014495186183 tw16164469230947215972 tw11831332802781891456 tw17671389745662803960 tw12543704696667505017 tw6029496942596086176 tw18422621999368053508 tw4923128175303449340 tw16200324330755378786 tw2486978032615407653 tw8888433016522620247 tw2341149929900029853 tw5838872213419905231 tw11007499852315856400 tw6776042570945695994 tw15268408718077345734 tw5893674352340905453 tw92823343801047661 tw7387770061436135185 tw16360514988751672626 tw12715903099958118836 tw4518049645048843611 tw3641577297414156520 tw9771615441901834818 tw12651740754152209139 tw3850626610691073510 tw16203586350101469836 tw9517356045897099144 tw7296314336473735198 tw2568970688433563552 tw12056804977046319564 tw1907620569452389404 tw8555394948185048740 tw1485094006808988647 tw3565790792579068263 tw531031754654587108 tw10515952971561754674 tw6378246914731950229 tw11221241228409981296 tw2559413048707610329 tw8661813163403189622 tw10310383099838100908 tw2435378506377248488 tw12727380922186621494 tw16066664449785006796 tw13586548192514033715 tw10070796778081350480 tw2656462763062305817 tw16715276035897724170 tw15790031821491354015 tw15056720426768104941 tw12465476721666161060 tw7819224152331877902 tw1351944643203324145 tw3403575555252348909 tw18398014619102585998 tw9781264027938833120 tw12070696404959392651 tw3477305442682388374 tw4819648816004780857 tw13945106974010942116 tw9467052398586847899 tw10827240341251473625 tw12720042361930259 tw10096081279240590167 tw2479279623588263800 tw10420048760172452372 tw14471562986219500563 tw1166968977266386393 tw17052404081408862280 tw3800984851002514655 tw13069486686309665422 tw18378463224570356312 tw3725897076663897057 tw16400520504145989630 tw10770468357853373595 tw9204820291871930189 tw13353763117782181602 tw5763535561913235298 tw8377863373602269672 tw13948327717390150286 tw5903980896203496562 tw15329526394039023517 tw3505400973184359871 tw11417743439866292494 tw2598997913058771654 tw10394396860040421528 tw9638617284756594705 tw2216585465837398567 tw6465700045235931153 tw16744903151909732866 tw6655746935049339100 tw16821632351274069725 tw2179603376966534093 tw10644749832248725321 tw10099565768421184214 tw5540829682750351435 tw8509012417219496786 tw244522877096041184 tw7746804255230030840 tw5986287079412439493 tw3855197174023427032 tw16228716374949202993 tw15236350207592580180 tw16684088206843929193 tw6028564710105089829 tw4281554895000563457 tw12267307315992254759 tw4929028858468183310 tw17981485654440066854 tw15247516374852503103 tw8722174681063102410 tw6612962391509527121 tw268614759400562798 tw15994345543081228967 tw11917909419346049009 tw8940945530483240496 tw1196226626927464528 tw8491974121034236874 tw17128925490024587096 tw12336242373621387606 tw9789614003517104792 tw5329648201625295140 tw5405384524941997542 tw18135267923465806085 tw9061701147831332492 tw5386423857850225265 tw15888282061984677683 tw11138261790848515769 tw15286279817268576847 tw10922541607151473061 tw18164134944851282065 tw9332267801176759289 tw8572668865298480380 tw11465450919837791918 tw11921089415800511578 tw17483034389984760496 tw9816167630483354719 tw8659262771058062424 tw2618011847995491951 tw15189011931961166920 tw702060462661869615 tw10284848092243850106 tw2573949487939104085 tw4770992148403545313 tw13015567990009528908 tw11235450372201517193 tw9562271606885640388 tw13665677983598637678 tw6361256343431842681 tw16244574774593682022 tw17703665924393632148 tw16242209910333116684 tw18023350820638218227 tw10278542323807648909 tw10277822362389029087 tw8135090642318056788 tw10567257579040945669 tw8534640859609462472 tw6879442520184500233 tw18390993733056401855 tw2276613473488486003 tw16845004609431743675 tw7028957665609301030 tw9523742584229391561 tw6785294661651253859 tw2688093843060294830 tw9455956880174598035 tw5240879936773725604 tw17374471936777363137 tw8271000415916269886 tw12741803355360891899 tw6907703359810688631 tw11038655638149693815 tw3688245917865810429 tw17127334023737255854 tw8101379541497747584 tw15031048324299743661 tw16922663408395067092:True)
open PySem PySem.W PyProof.Rows
set_option maxRecDepth 100000 in
set_option maxHeartbeats 0 in
theorem PySem.Challenge.cw_inningsbook_k43_pairs_holds : PySem.Challenge.rw_inningsbook_k43_pairs.Holds := by
  w_on; o_law; k_head; (case hw => w_witness2)
  k_fill
  refine My.walk (l := PySem.Challenge.rw_inningsbook_k43_pairs) rfl rfl (fun w h Y => PySem.W.kIn_of Y) ?F
  case F =>
    intro w mg fa h KX G hmg
    refine' My.anl KX G hmg ⟨PySem.W.mg_none_of KX G ?_, PySem.W.mg_none_of KX G ?_, PySem.W.mg_none_of KX G ?_, PySem.W.mg_none_of KX G ?_, PySem.W.mg_none_of KX G ?_, PySem.W.mg_none_of KX G ?_, PySem.W.mg_none_of KX G ?_, PySem.W.mg_none_of KX G ?_, PySem.W.mg_none_of KX G ?_, PySem.W.mg_none_of KX G ?_, PySem.W.mg_none_of KX G ?_, PySem.W.mg_none_of KX G ?_, PySem.W.mg_none_of KX G ?_, PySem.W.mg_of KX G ?_, PySem.W.mg_of KX G ?_, PySem.W.mg_of KX G ?_, PySem.W.mg_of KX G ?_, PySem.W.mg_of KX G ?_, PySem.W.mg_of KX G ?_, PySem.W.mg_of KX G ?_, PySem.W.mg_of KX G ?_, PySem.W.mg_of KX G ?_, PySem.W.mg_of KX G ?_, PySem.W.mg_of KX G ?_, PySem.W.mg_of KX G ?_, PySem.W.mg_of KX G ?_, PySem.W.mg_of KX G ?_, My.dmk KX G (fun _ _ _ _ _ _ => My.zq1 (fun _ => rfl)) ?_ ?_ ?_ ?_, My.dmk KX G (fun _ _ _ _ _ _ => My.zq2 (fun _ _ => rfl)) ?_ ?_ ?_ ?_, My.dmk KX G (fun _ _ _ _ _ _ => My.zq1 (fun _ => rfl)) ?_ ?_ ?_ ?_, My.dmk KX G (fun _ _ _ _ _ _ => My.zq2 (fun _ _ => rfl)) ?_ ?_ ?_ ?_, My.mmk (fun _ _ _ _ _ _ => My.zq3 (fun _ _ _ => rfl)) ?_ ?_ ?_ ?_ ?_, My.dmk KX G (fun _ _ _ _ _ _ => My.zq2 (fun _ _ => rfl)) ?_ ?_ ?_ ?_, My.mmk (fun _ _ _ _ _ _ => My.zq1 (fun _ => rfl)) ?_ ?_ ?_ ?_ ?_, My.mmk (fun _ _ _ _ _ _ => My.zq1 (fun _ => rfl)) ?_ ?_ ?_ ?_ ?_, My.mmk (fun _ _ _ _ _ _ => My.zq2 (fun _ _ => rfl)) ?_ ?_ ?_ ?_ ?_, My.mmk (fun _ _ _ _ _ _ => My.zq2 (fun _ _ => rfl)) ?_ ?_ ?_ ?_ ?_, My.mmk (fun _ _ _ _ _ _ => My.zq1 (fun _ => rfl)) ?_ ?_ ?_ ?_ ?_, My.mmk (fun _ _ _ _ _ _ => My.zq1 (fun _ => rfl)) ?_ ?_ ?_ ?_ ?_, My.mmk (fun _ _ _ _ _ _ => My.zq2 (fun _ _ => rfl)) ?_ ?_ ?_ ?_ ?_, My.mmk (fun _ _ _ _ _ _ => My.zq2 (fun _ _ => rfl)) ?_ ?_ ?_ ?_ ?_, My.mmk (fun _ _ _ _ _ _ => My.zq2 (fun _ _ => rfl)) ?_ ?_ ?_ ?_ ?_, My.dmk KX G (fun _ _ _ _ _ _ => My.zq2 (fun _ _ => rfl)) ?_ ?_ ?_ ?_, My.mmk (fun _ _ _ _ _ _ => My.zq3 (fun _ _ _ => rfl)) ?_ ?_ ?_ ?_ ?_, My.mmk (fun _ _ _ _ _ _ => My.zq1 (fun _ => rfl)) ?_ ?_ ?_ ?_ ?_, My.mmk (fun _ _ _ _ _ _ => My.zq1 (fun _ => rfl)) ?_ ?_ ?_ ?_ ?_, My.mmk (fun _ _ _ _ _ _ => My.zq1 (fun _ => rfl)) ?_ ?_ ?_ ?_ ?_, My.dmk KX G (fun _ _ _ _ _ _ => My.zq2 (fun _ _ => rfl)) ?_ ?_ ?_ ?_, My.dmk KX G (fun _ _ _ _ _ _ => My.UY (fun _ _ _ _ => rfl)) ?_ ?_ ?_ ?_, My.dmk KX G (fun _ _ _ _ _ _ => My.zq1 (fun _ => rfl)) ?_ ?_ ?_ ?_, My.dmk KX G (fun _ _ _ _ _ _ => My.zq2 (fun _ _ => rfl)) ?_ ?_ ?_ ?_, My.dmk KX G (fun _ _ _ _ _ _ => My.zq3 (fun _ _ _ => rfl)) ?_ ?_ ?_ ?_, My.dmk KX G (fun _ _ _ _ _ _ => My.UY (fun _ _ _ _ => rfl)) ?_ ?_ ?_ ?_, My.dmk KX G (fun _ _ _ _ _ _ => My.C2 (fun _ _ _ _ _ => rfl)) ?_ ?_ ?_ ?_, My.mmk (fun _ _ _ _ _ _ => My.zq2 (fun _ _ => rfl)) ?_ ?_ ?_ ?_ ?_, My.mmk (fun _ _ _ _ _ _ => My.C2 (fun _ _ _ _ _ => rfl)) ?_ ?_ ?_ ?_ ?_, My.mmk (fun _ _ _ _ _ _ => My.zq2 (fun _ _ => rfl)) ?_ ?_ ?_ ?_ ?_, My.dmk KX G (fun _ _ _ _ _ _ => My.zq3 (fun _ _ _ => rfl)) ?_ ?_ ?_ ?_, My.dmk KX G (fun _ _ _ _ _ _ => My.zq2 (fun _ _ => rfl)) ?_ ?_ ?_ ?_, My.mmk (fun _ _ _ _ _ _ => My.zq2 (fun _ _ => rfl)) ?_ ?_ ?_ ?_ ?_, My.mmk (fun _ _ _ _ _ _ => My.zq1 (fun _ => rfl)) ?_ ?_ ?_ ?_ ?_, My.mmk (fun _ _ _ _ _ _ => My.zq2 (fun _ _ => rfl)) ?_ ?_ ?_ ?_ ?_, My.mmk (fun _ _ _ _ _ _ => My.zq3 (fun _ _ _ => rfl)) ?_ ?_ ?_ ?_ ?_, My.mmk (fun _ _ _ _ _ _ => My.zq2 (fun _ _ => rfl)) ?_ ?_ ?_ ?_ ?_, My.mmk (fun _ _ _ _ _ _ => My.zq3 (fun _ _ _ => rfl)) ?_ ?_ ?_ ?_ ?_, My.mmk (fun _ _ _ _ _ _ => My.zq2 (fun _ _ => rfl)) ?_ ?_ ?_ ?_ ?_, My.mmk (fun _ _ _ _ _ _ => My.zq2 (fun _ _ => rfl)) ?_ ?_ ?_ ?_ ?_, My.mmk (fun _ _ _ _ _ _ => My.zq2 (fun _ _ => rfl)) ?_ ?_ ?_ ?_ ?_, My.dmk KX G (fun _ _ _ _ _ _ => My.zq3 (fun _ _ _ => rfl)) ?_ ?_ ?_ ?_, My.dmk KX G (fun _ _ _ _ _ _ => My.zq3 (fun _ _ _ => rfl)) ?_ ?_ ?_ ?_, My.mmk (fun _ _ _ _ _ _ => My.zq3 (fun _ _ _ => rfl)) ?_ ?_ ?_ ?_ ?_, My.mmk (fun _ _ _ _ _ _ => My.zq3 (fun _ _ _ => rfl)) ?_ ?_ ?_ ?_ ?_, My.mmk (fun _ _ _ _ _ _ => My.zq1 (fun _ => rfl)) ?_ ?_ ?_ ?_ ?_, My.mmk (fun _ _ _ _ _ _ => My.zq2 (fun _ _ => rfl)) ?_ ?_ ?_ ?_ ?_, My.mmk (fun _ _ _ _ _ _ => My.zq2 (fun _ _ => rfl)) ?_ ?_ ?_ ?_ ?_, My.mmk (fun _ _ _ _ _ _ => My.zq2 (fun _ _ => rfl)) ?_ ?_ ?_ ?_ ?_, My.mmk (fun _ _ _ _ _ _ => My.zq2 (fun _ _ => rfl)) ?_ ?_ ?_ ?_ ?_, My.mmk (fun _ _ _ _ _ _ => My.zq1 (fun _ => rfl)) ?_ ?_ ?_ ?_ ?_, My.mmk (fun _ _ _ _ _ _ => My.zq1 (fun _ => rfl)) ?_ ?_ ?_ ?_ ?_, My.mmk (fun _ _ _ _ _ _ => My.zq1 (fun _ => rfl)) ?_ ?_ ?_ ?_ ?_, My.dmk KX G (fun _ _ _ _ _ _ => My.zq2 (fun _ _ => rfl)) ?_ ?_ ?_ ?_, My.dmk KX G (fun _ _ _ _ _ _ => My.zq2 (fun _ _ => rfl)) ?_ ?_ ?_ ?_, My.dmk KX G (fun _ _ _ _ _ _ => My.zq2 (fun _ _ => rfl)) ?_ ?_ ?_ ?_, My.dmk KX G (fun _ _ _ _ _ _ => My.zq1 (fun _ => rfl)) ?_ ?_ ?_ ?_, My.dmk KX G (fun _ _ _ _ _ _ => My.zq2 (fun _ _ => rfl)) ?_ ?_ ?_ ?_, My.mmk (fun _ _ _ _ _ _ => My.zq1 (fun _ => rfl)) ?_ ?_ ?_ ?_ ?_, My.dmk KX G (fun _ _ _ _ _ _ => My.zq2 (fun _ _ => rfl)) ?_ ?_ ?_ ?_, My.dmk KX G (fun _ _ _ _ _ _ => My.zq2 (fun _ _ => rfl)) ?_ ?_ ?_ ?_, My.dmk KX G (fun _ _ _ _ _ _ => My.zq2 (fun _ _ => rfl)) ?_ ?_ ?_ ?_, My.dmk KX G (fun _ _ _ _ _ _ => My.zq2 (fun _ _ => rfl)) ?_ ?_ ?_ ?_, My.dmk KX G (fun _ _ _ _ _ _ => My.zq2 (fun _ _ => rfl)) ?_ ?_ ?_ ?_, My.dmk KX G (fun _ _ _ _ _ _ => My.zq2 (fun _ _ => rfl)) ?_ ?_ ?_ ?_, My.dmk KX G (fun _ _ _ _ _ _ => My.zq1 (fun _ => rfl)) ?_ ?_ ?_ ?_, ⟨PySem.W.mg_of KX G ?_, ⟨?_, ?_, ?_, ?_⟩, ⟨?_, ?_, ?_, ?_⟩⟩, ?_, ?_, ?_, ?_, ?_, ?_, ?_, ?_, ?_, ?_, ?_, ?_, ⟨PySem.W.mg_of KX G ?_, ⟨?_, ?_, ?_, ?_⟩, ⟨?_, ?_, ?_, ?_⟩⟩, ?_, ?_, ?_, ?_, ?_, ?_, ?_⟩ ?_ ?_ ?_ ?_ ?_ ?_ ?anw ?_ ?_ ?_ ?_ ?_ ?_ ?_ ?_ ?_ ?_ ?_ ?_ ?_ ?_ ?_ ?_ ?_ ?J1
    any_goals first | k_is | (dsimp only[L2.cy]; k_is)
    any_goals first | k_is | (dsimp only[L2.cy]; k_is)
    (case anw => kernel_rfl)
    (case J1 => decide)
