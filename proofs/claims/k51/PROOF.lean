import PyProof.Rows.All
import Wide.All
import OpenK.AllK
import Wide.FinOn
import Lean
import PyProof.EqAt
import PyProof.EqKinds
import PyProof.TupleCall
import PyProof.ExcInit
import PyProof.ExcClass3
import OpenK.KOwn
import PyProof.ExcAttrAll.ValueError
import OpenK.KDescr
import KE.KIsNot
import PyProof.NeKinds
import PyProof.Draws
import PyProof.EnumMake
import PyProof.ZipIter
import KE.KListMore
import PyProof.Rows.FStr
import PyProof.FString
import PyProof.Rows.CallKw2
import PyProof.StrLawsTight
import PyProof.CompUse
import PyProof.CompFree
import PyProof.RaisesMany
import PyProof.NsDelKeeps
import PyProof.RulesAs
import PyProof.MaxThree
import PyProof.Rows.SumAny
import PyProof.Rows.StrJoin2
import KE.KRevIter
import PyProof.AutoRange
import PyProof.FactsAll.range_2
import PyProof.Rows.FactsT2
import PyProof.Rows.SortShell
import PyProof.Rows.SortWalk
import PyProof.DictIter
import PyProof.DictWalks
import KE.KDictLaws
import KE.KDictOf
import PyProof.AttrMissSeq
import KE.KIntText
import PyProof.Rows.SetFrom
import PyProof.Rows.SortRuns
import PyProof.Rows.SortStr
import PySem.Challenge.RW_inningsbook_k51_whole_put_right
set_option bootstrap.genMatcherCode false
set_option compiler.extract_closed false
set_option genSizeOf false
set_option Elab.async false
set_option linter.all false
set_option maxRecDepth 100000
set_option maxHeartbeats 4000000
set_option genInjectivity false
open PySem renaming wpAny_bind->zaa,wpAny_pure->zaf,boot_len->zaG,wpAny_mono->zaH,wpAny_newObj_type->zaS,mem_of_lookup->zaW,wpAny_truthy_bool->zaX,wpAny_field->zbr,wpAny_holding->zbu,wpAny_loadPart_at->zbB,wpAny_typeNameOfWhole_keyiter->zbD,wpAny_callSpecial?_slot->zbE,wpAny_setField->zbG,wpAny_call_entry->zbS,plainObj_wpAny_Assign_Attribute->zbZ,wpAny_Call_Name_kw->zcc,tupleKind_room_in1->zce,wpAny_isSubtype_exc->zcq,wpAny_execs_nil->zcr,wpAny_passesOwn->zcs,codeAny_mono->zcw,wpAny_call->zcD,wpAny_standAt->zcI,codeAny_call_builtin->zcQ,wpAny_pyIter_list->zdp,wpAny_dictEntries->zds,wpAny_execs_cons->zdx,wpAny_lookBehind->zdy,pastItsLine_dict->zdz,wpAny_dictEpoch->zdK,sizeLine_eq->zdN,wpAny_loadPart->zdU
open List renaming getElem?_eq_some_iff->zab,getElem?_eq_getElem->zad,length_map->zae,length_append->zag,getElem?_append_left->zaj,mem_cons->zan,size_toArray->zao,getElem?_map->zaq,map_cons->zas,getElem?_append_right->zat,mem_singleton->zau,append_nil->zaw,getElem?_set_ne->zax,all_cons->zay,getElem?_set_self->zaz,length_cons->zaB,append_assoc->zaC,getElem?_cons_succ->zaD,map_append->zaE,take_length->zaF,mem_append_right->zaI,all_eq_true->zaK,not_mem_nil->zaL,all_nil->zaN,mem_cons_of_mem->zaO,lookup_cons->zaP,length_singleton->zaR,getElem?_cons_zero->zaT,mem_of_getElem?->zaV,length_take->zbj,mem_map->zbl,mem_flatMap->zbm,foldl_cons->zbp,replicate_succ->zbq,take_of_length_le->zbs,map_map->zbt,contains_cons->zbx,nodup_cons->zby,getElem?_take_of_lt->zbz,mem_cons_self->zbJ,map_nil->zbK,mem_append->zbL,length_nil->zbM,filter_cons->zbV,replicate_zero->zbX,map_congr_left->zbY,any_cons->zcb,find?_cons->zcd,drop_eq_nil_of_le->zcg,nodup_append->zch,eq_nil_or_concat->zcj,mem_append_left->zcl,getElem_mem->zcn,filterMap_cons->zco,drop_eq_getElem_cons->zcu,any_map->zcA,getElem?_replicate->zcF,any_eq_true->zcJ,cons_append->zcK,length_set->zcP,getElem?_range->zcX,filter_eq_self->zcY,take_zero->zdc,set_cons_succ->zdh,zip_cons_cons->zdi,getD_eq_getElem?_getD->zdl,set_comm->zdm,flatMap_cons->zdt,length_drop->zdC,all_map->zdD,of_mem_zip->zdH,nil_append->zdM,mem_range->zdS,set_append_right->zdY,take_succ->zdZ,any_nil->zey
open PySem.Heap renaming get?_push_of_some->zac,lt_size->zam,get?_push_size->zap,get?_update_other->zaA,get?_update_self->zaQ,size_push->zda
open Nat renaming le_refl->zah,le_trans->zai,lt_of_lt_of_le->zak,ne_of_lt->zar,lt_irrefl->zaJ,le_succ->zbb,lt_succ_self->zbi,ne_of_gt->zbQ,zero_add->zbT,le_add_right->zcm,min_eq_left->zcv,lt_of_le_of_lt->zcB,zero_le->zcG,min_eq_right->zcL,one_ne_zero->zcT,lt_trans->zdA,add_sub_cancel_left->zdG,le_of_lt->zen
open Bool renaming false_ne_true->zal,and_self->zaU,and_eq_true->zbe,and_eq_true_iff->zbf,eq_iff_iff->zbg,false_eq_true->zcf,or_true->zcy,false_and->zcZ,true_and->zdn,and_true->zdo,or_eq_true->zdJ,and_false->zdV,or_false->zef
open Option.some renaming inj->zav,injEq->zbC
open PySem.F renaming plainAttrs_list->zaM,slot_list_append->zaY,type_list_append->zaZ,slot_dict_keyiterator_next->zbn,slot_tuple_iterator_next->zbO,slot_list_getattribute->zcz,slot_dict_get->zcN,args_dict_keyiterator_next_1->zcR,entry_dict_keyiterator_next->zcU,args_tuple_iterator_next_1->zdb,attrBase_ValueError->zdf,entry_tuple_iterator_next->zdg,args_tuple_add_2->zdB,args_dict_get_3->zdE,entry_tuple_add->zdF,entry_dict_get->zdP,slot_tuple_add->zdQ
open PySem.W renaming kia_one->zba,looks_findIn->zbP,looks_clsIn->zcp,callWith_K->zcx,methodCall_KW->zcM,plainGet_of->zcW,cellsFrom_some->zdO,looks_mroIn->zei,tail_of_in->zeu,check_slot->zev,set_plain->zeB,kitx_list->zeD,kitx_dict->zeE
open Ne renaming symm->zbc
open Int renaming eq_ofNat_of_zero_le->zbd,toNat_natCast->zbo,natCast_add->zbA,natCast_one->zbN,emod_lt_of_pos->zcC,emod_nonneg->zcS
open PySem.PassesOwn renaming never->zbh
open PySem.Obj renaming data_mapFields->zbk,isFreed_of_fields->zci
open Option renaming bind_some->zbv,getD_none->zbF,map_eq_some_iff->zbH,isSome_iff_exists->zbR,getD_some->zbU,map_some->zct,isSome_map->zdr,isNone_iff_eq_none->zdw,isSome_some->zeq,isNone_none->zex
open PySem.W.Looks renaming here->zbw
open PyProof.Rows renaming boot_list->zbI,slot_tuple_getitem->zca,callWith_type1->zck
open PySem.Heap.SameBut renaming update->zbW
open Eq renaming symm->zcE
open PySem.Calls renaming callWith_builtin->zcH,evalArgs_plain->zcO,spliced_cons->zde,Name_function_global->zdj
open Array renaming length_toList->zcV,getElem?_eq_some_iff->zdk,getElem?_eq_getElem->zdv
open Sum.inr renaming inj->zdd
open PySem.SeqAt.EqAt renaming same->zdI,int_str->zel,str_int->zem,of_refs->zew
theorem zp_0q(h:True:=by rfl):True:=trivial
def zp_0:Lean.Syntax:=zp_0q._auto_1
theorem zp_1q(h:True:=by decide):True:=trivial
def zp_1:Lean.Syntax:=zp_1q._auto_1
theorem zp_2q(h:True:=by first|decide|omega):True:=trivial
def zp_2:Lean.Syntax:=zp_2q._auto_1
theorem zp_3q(h:True:=by intro _;rfl):True:=trivial
def zp_3:Lean.Syntax:=zp_3q._auto_1
theorem zp_4q(h:True:=by first|exact .inl rfl|exact .inr rfl|assumption):True:=trivial
def zp_4:Lean.Syntax:=zp_4q._auto_1
theorem zp_5q(h:True:=by with_unfolding_all rfl):True:=trivial
def zp_5:Lean.Syntax:=zp_5q._auto_1
theorem zp_7q(h:True:=by first|exact Or.inl rfl|exact Or.inr (Or.inl rfl)|exact Or.inr (Or.inr rfl)):True:=trivial
def zp_7:Lean.Syntax:=zp_7q._auto_1
theorem zp_8q(h:True:=by intro _ _;rfl):True:=trivial
def zp_8:Lean.Syntax:=zp_8q._auto_1
theorem zp_9q(h:True:=by exact⟨rfl,rfl,rfl,rfl⟩):True:=trivial
def zp_9:Lean.Syntax:=zp_9q._auto_1
theorem zp_10q(h:True:=by first|exact Or.inl rfl|exact Or.inr rfl):True:=trivial
def zp_10:Lean.Syntax:=zp_10q._auto_1
namespace L2
open PySem PySem.Spec PyProof.Rows
theorem _root_.jp{p q:Prop}(a:p)(b:q):p∧q:=⟨a,b⟩
noncomputable abbrev dI:=Sum Int Str
noncomputable def lT:dI->Value->Bool
 |.inl k,v=>Value.isInt k v
 |.inr x,v=>Value.isStrOf x v
noncomputable def akM (w:World):dI->Int
 |.inl k=>hashInt k
 |.inr x=>hashStr w x
theorem cZ:∀{k:dI} {v:Value},lT k v=true->(∃i t,k=Sum.inl i/\v=Value.int i t)\/(∃x t,k=Sum.inr x/\v=Value.str x t)
 |.inl i,v,h=>by
  obtain⟨t,e⟩:=Value.isInt_shape (k:=i) (v:=v) h
  exact .inl ⟨i,t,rfl,e⟩
 |.inr x,v,h=>by
  obtain⟨t,e⟩:=Value.isStrOf_shape (x:=x) (v:=v) h
  exact .inr ⟨x,t,rfl,e⟩
theorem HX (i:Int)(t:Tok):lT (.inl i) (.int i t)=true:=by simp[lT,Value.isInt]
theorem HY (x:Str)(t:Tok):lT (.inr x) (.str x t)=true:=by simp[lT,Value.isStrOf]
theorem YM (a b:Int):decide ((Sum.inl a:dI)=Sum.inl b)=(a == b):=by
 by_cases e:a=b
 ·subst e;simp
 ·have h:¬ (Sum.inl a:dI)=Sum.inl b:=λq=>e (Sum.inl.inj q)
  rw[decide_eq_false h];exact (beq_eq_false_iff_ne.mpr e).symm
theorem YN (a b:Str):decide ((Sum.inr a:dI)=Sum.inr b)=decide (a=b):=by
 by_cases e:a=b
 ·subst e;simp
 ·have h:¬ (Sum.inr a:dI)=Sum.inr b:=λq=>e (zdd q)
  rw[decide_eq_false h,decide_eq_false e]
theorem YO (a:Int)(b:Str):decide ((Sum.inl a:dI)=Sum.inr b)=false:=decide_eq_false (λq=>nomatch q)
theorem YQ (a:Str)(b:Int):decide ((Sum.inr a:dI)=Sum.inl b)=false:=decide_eq_false (λq=>nomatch q)
noncomputable def bX (prog:Program)(w:World):PySem.KeyKind prog w dI where
 is:=lT
 hash:=akM w
 inj:=λv a b ha hb=>by
  rcases cZ ha with⟨i,t,rfl,rfl⟩|⟨x,t,rfl,rfl⟩
  ·rcases cZ hb with⟨j,u,rfl,e⟩|⟨y,u,rfl,e⟩
   ·injection e with e1 _;rw[e1]
   ·exact nomatch e
  ·rcases cZ hb with⟨j,u,rfl,e⟩|⟨y,u,rfl,e⟩
   ·exact nomatch e
   ·injection e with e1 _;rw[e1]
 byValue:=λk v h=>by
  rcases cZ h with⟨i,t,rfl,rfl⟩|⟨x,t,rfl,rfl⟩<;>rfl
 pyHash:=λhv h=>by
  rcases cZ hv with⟨i,t,rfl,rfl⟩|⟨x,t,rfl,rfl⟩
  ·exact wpAny_pyHash_int h
  ·exact wpAny_pyHash_str h
 eqBool:=λhu hv h=>by
  rcases cZ hu with⟨i,t,rfl,rfl⟩|⟨x,t,rfl,rfl⟩
  ·rcases cZ hv with⟨j,u,rfl,rfl⟩|⟨y,u,rfl,rfl⟩
   ·rw[YM] at h;exact wpAny_eqBool_int h
   ·rw[YO] at h;exact zel i t y u _ _ _ _ h
  ·rcases cZ hv with⟨j,u,rfl,rfl⟩|⟨y,u,rfl,rfl⟩
   ·rw[YQ] at h;exact zem x t j u _ _ _ _ h
   ·rw[YN] at h;exact wpAny_eqBool_str h
 «strs»:= λk x t v h=>by
  rcases cZ h with⟨i,u,rfl,e⟩|⟨y,u,rfl,e⟩
  ·exact nomatch e
  ·injection e with e1 _
   subst e1;cases v<;>rfl
theorem AD (prog:Program)(w:World)(i:Int)(t:Tok):(bX prog w).is (.inl i) (.int i t)=true:=HX i t
theorem AE (prog:Program)(w:World)(x:Str)(t:Tok):(bX prog w).is (.inr x) (.str x t)=true:=HY x t
set_option genInjectivity true in
inductive V where
 |br|bl (b:Bool)|int (i:Int)|str (x:Str)|J_ (b:Array UInt8)|YR (b:UInt64)|ref (a:Addr)|ty (n:String)
 deriving DecidableEq
noncomputable def bI:V->Value->Prop
 |.br,u=>u=Value.none
 |.bl b,u=>u=Value.bool b
 |.int i,u=>∃t,u=Value.int i t
 |.str x,u=>∃t,u=Value.str x t
 |.J_ b,u=>∃t,u=Value.bytes b t
 |.YR b,u=>∃t,u=Value.float b t
 |.ref a,u=>u=Value.ref a
 |.ty n,u=>u=Value.type n
noncomputable abbrev bL:List V->List Value->Prop:=Paired bI
theorem bL.length (r:bL xs us):xs.length=us.length:=Paired.length r
theorem bL.get:∀{xs:List V} {us:List Value} {i:Nat} {x:V},bL xs us->xs[i]? = some x->∃u,us[i]? = some u/\bI x u
 |_,_,_,_,.nil,e=>by simp at e
 |_,_,0,_,.cons r _,e=>by simp at e;subst e;exact⟨_,rfl,r⟩
 |_,_,i+1,x,.cons _ t,e=>by
  obtain⟨u,h1,h2⟩:=bL.get (i:=i) (x:=x) t (by simpa using e)
  exact⟨u,by simpa using h1,h2⟩
theorem bL.set (r:bI x u):∀{xs:List V} {us:List Value} (i:Nat),bL xs us->bL (xs.set i x) (us.set i u)
 |_,_,_,.nil=>.nil
 |_,_,0,.cons _ t=>.cons r t
 |_,_,i+1,.cons q t=>.cons q (bL.set r i t)
theorem bL.lU:∀{xs ys:List V} {us ws:List Value},bL xs us->bL ys ws->bL (xs++ys) (us++ws)
 |_,_,_,_,.nil,s=>s
 |_,_,_,_,.cons r t,s=>.cons r (bL.lU t s)
theorem bL.take:∀{xs:List V} {us:List Value} (n:Nat),bL xs us->bL (xs.take n) (us.take n)
 |_,_,0,_=>.nil
 |_,_,_+1,.nil=>.nil
 |_,_,n+1,.cons r t=>.cons r (bL.take n t)
theorem bL.drop:∀{xs:List V} {us:List Value} (n:Nat),bL xs us->bL (xs.drop n) (us.drop n)
 |_,_,0,r=>r
 |_,_,_+1,.nil=>.nil
 |_,_,n+1,.cons _ t=>bL.drop n t
noncomputable def iG:Option V->Option Value->Prop
 |some v,some u=>bI v u
 |none,none=>True
 |_,_=>False
noncomputable def KV {κ:Type}:List (κ × V)->List (κ × Value)->Prop:=Paired λ(p:κ × V) (q:κ × Value)=>p.1=q.1/\bI p.2 q.2
noncomputable def kV:dI->V
 |.inl i=>.int i
 |.inr x=>.str x
inductive HO where
 /-- a list -/
 |bM (xs:List V)
 /-- a fQ (never aj3) -/
 |gE (xs:List V)
 /-- a dict afn pT are ints and afo;HZ afn pT are tuples of ints and afo (Dn empty HZ is apL) -/
 |dK (aO:List (dI×V))|dT (aO:List (List dI×V))
 /-- a set of ints:bu aj4,bu size -/
 |set (S:Int->Bool) (n:Nat)
 /-- an instance of Dn class at C,bu dict at dx,bu YS -/
 |dZ (C dx:Addr) (fs:List (Str×V))
 /-- Dn dict of Dn instance at x -/
 |sD (x:Addr)
 /-- Dn dict of an aeO -/
 |xd (fs:List (Str×V))
 /-- a an5 akN,f of x -/
 |met (f x:Addr)
 /-- a range Kq lo,lo+1,.. an6 hi -/
 |rng (lo hi:Int)
 /-- a afp apM is an7 to Dn Kq (Dn Kr;a dict while a Qu an8 it):apN,never aj5 while it is so -/
 |pP (o:Obj) (u:HO)
 /-- a apO afq table -/
 |YT (ps:Array Value)
 /-- any Fx afp,by akQ is true of bu HZ Kq (a def of an9 sD:apP a S n:=HO.ext fun h=>..) -/
 |ext (φ:Heap->Prop)
noncomputable abbrev Hp:=Addr->Option HO
noncomputable def bF (H:Hp)(a:Addr)(o:HO):Hp:=λb=>if b=a then some o else H b
theorem ay:bF H a o a=some o:=by unfold bF;rw[if_pos rfl]
theorem au (h:b≠a):bF H a o b=H b:=by unfold bF;rw[if_neg h]
theorem Fy:bF (bF H a o) a u=bF H a u:=by
 funext b;unfold bF;split<;>rfl
theorem afr {H:Hp}{a b:Addr}{o u:HO}(h:H a=some o)(h':H b=some u)(d:o≠u):a≠b:=by
 intro e;subst e;rw[h] at h';exact d (zav h')
theorem fu {H:Hp}{a b:Addr}{o:HO}(h:H a=some o)(h':H b=none):a≠b:=by
 intro e;subst e;rw[h] at h';cases h'
section
variable (P:Program)(w:World)
noncomputable def cD (H:Hp)(h:Heap)(a:Addr):HO->Prop
 |.bM xs=>xs.length<=sizeLine/\∃(bu:List Value) (n:Nat),bL xs bu/\h.get? a=some { cls:=.type "list",data:=.seq bu.toArray n}
 |.gE xs=>xs.length<=sizeLine/\∃bu:List Value,bL xs bu/\IsTup h a bu.toArray
 |.dK aO=>aO.length<=sizeLine/\(a == sysModules)=false/\∃vs,KV aO vs/\h.DictOf (bX P w) a vs
 |.dT aO=>aO.length<=sizeLine/\(a == sysModules)=false/\∃xs:List (List dI×Addr×Value),
   Paired (λ(p:List dI×V) (q:List dI×Addr×Value)=>p.1=q.1/\H q.2.1=some (.gE (p.1.map kV))/\bI p.2 q.2.2) aO xs /\
   ∃o es ep,h.get? a=some o/\o.ExactDict/\o.data = .dict es ep/\es.toList=xs.map (entryOfKey (tupleKind (bX P w)))/\(xs.map (·.1)).Nodup
 |.set S n=>h.SetOf (intKind P w) a S n
 |.dZ C dx fs=>H dx=some (.sD a)/\fs.length<=1000/\dx≠a/\h.get? a=some (PySem.W.instObj C dx) /\
   ∃mA,h.Ns1 dx mA/\(∀f,iG (fs.lookup f) (mA f))/\PySem.Within mA (fs.map (·.1))
 |.sD _=>∃o,h.get? a=some o
 |.xd fs=>∃mA,h.Ns1 a mA/\∀f,iG (fs.lookup f) (mA f)
 |.rng lo hi=>∃t u v,h.get? a=some { cls:=.type "range",data:=.fields #[.int lo t,.int hi u,.int 1 v]}
 |.pP o u=>h.get? a=some o/\cD H h a u
 |.YT ps=>h.get? a=some {cls:=.none,data:=.fields ps}
 |.met f x=>h.get? a=some (PySem.W.methodObj (.ref f) (.ref x))
 |.ext φ=>φ h/\(∃o,h.get? a=some o)/\∀h1 h2:Heap,φ h1->(∀o,h1.get? a=some o->h2.get? a=some o) -> φ h2
noncomputable def mS (H:Hp)(h:Heap):Prop:=∀a o,H a=some o->cD P w H h a o
end
theorem cD.lt (x:cD P w H h a o):a<h.objs.size:=by
 cases o with
 |bM xs=>obtain⟨_,_,_,_,e⟩:=x;exact zam e
 |gE xs=>obtain⟨_,_,_,p⟩:=x;exact p.lt
 |dK aO=>obtain⟨_,_,_,_,o,_,_,e,_⟩:=x;exact zam e
 |dT aO=>obtain⟨_,_,_,_,o,_,_,e,_⟩:=x;exact zam e
 |set S n=>obtain⟨o,_,_,_,e,_⟩:=x;exact zam e
 |dZ C dx fs=>obtain⟨_,_,_,e,_⟩:=x;exact zam e
 |sD y=>obtain⟨_,e⟩:=x;exact zam e
 |xd fs=>obtain⟨_,⟨_,_,_,e,_⟩,_⟩:=x;exact zam e
 |rng lo hi=>obtain⟨_,_,_,e⟩:=x;exact zam e
 |pP ob u=>obtain⟨e,_⟩:=x;exact zam e
 |YT ps=>exact zam (show h.get? a=some _ from x)
 |met f y=>exact zam (show h.get? a=some _ from x)
 |ext φ=>obtain⟨_,⟨_,e⟩,_⟩:=x;exact zam e
theorem Paired.YU {α β:Type}{F G:α -> β -> Prop}:∀{afs:List α} {aft:List β},Paired F afs aft->(∀a b,F a b->G a b)->Paired G afs aft
 |_,_,.nil,_=>.nil
 |_,_,.cons r t,f=>.cons (f _ _ r) (Paired.YU t f)
theorem cD.pU (x:cD P w H h a o)(k:∀b u,(b=a\/H b=some (.sD a))->h.get? b=some u->h'.get? b=some u)
  (ho:∀b,H b=some (.sD a)->H' b=some (.sD a)) (ht:∀b xs,H b=some (.gE xs)->H' b=some (.gE xs)):cD P w H' h' a o:=by
 induction o with
 |bM xs=>obtain⟨z,bu,n,r,e⟩:=x;exact⟨z,bu,n,r,k _ _ (.inl rfl) e⟩
 |gE xs=>obtain⟨z,bu,r,ob,e,c⟩:=x;exact⟨z,bu,r,ob,k _ _ (.inl rfl) e,c⟩
 |dK aO=>obtain⟨z,y,vs,r,ob,es,ep,e,c⟩:=x;exact⟨z,y,vs,r,ob,es,ep,k _ _ (.inl rfl) e,c⟩
 |dT aO =>
  obtain⟨z,y,xs,r,ob,es,ep,e,c⟩:=x;exact⟨z,y,xs,Paired.YU r λp q z=>⟨z.1,ht _ _ z.2.1,z.2.2⟩,ob,es,ep,k _ _ (.inl rfl) e,c⟩
 |set S n=>obtain⟨ob,es,ep,t,e,c⟩:=x;exact⟨ob,es,ep,t,k _ _ (.inl rfl) e,c⟩
 |dZ C dx fs =>
  obtain⟨d,z,ne,e,mA,⟨od,es,ep,e2,c⟩,r⟩:=x
  exact⟨ho _ d,z,ne,k _ _ (.inl rfl) e,mA,⟨od,es,ep,k _ _ (.inr d) e2,c⟩,r⟩
 |sD y=>obtain⟨ob,e⟩:=x;exact⟨ob,k _ _ (.inl rfl) e⟩
 |xd fs=>obtain⟨mA,⟨od,es,ep,e,c⟩,r⟩:=x;exact⟨mA,⟨od,es,ep,k _ _ (.inl rfl) e,c⟩,r⟩
 |rng lo hi=>obtain⟨t,u,v,e⟩:=x;exact⟨t,u,v,k _ _ (.inl rfl) e⟩
 |pP ob u ih=>obtain⟨e,q⟩:=x;exact⟨k _ _ (.inl rfl) e,ih q⟩
 |YT ps =>
  have e:h.get? a=some {cls:=.none,data:=.fields ps}:=x
  show h'.get? a=some {cls:=.none,data:=.fields ps}
  exact k a _ (.inl rfl) e
 |met f y =>
  have e:h.get? a=some (PySem.W.methodObj (.ref f) (.ref y)):=x
  show h'.get? a=some (PySem.W.methodObj (.ref f) (.ref y))
  exact k a _ (.inl rfl) e
 |ext φ=>obtain⟨p,⟨o,e⟩,st⟩:=x;exact⟨st _ _ p λo q=>k _ _ (.inl rfl) q,⟨o,k _ _ (.inl rfl) e⟩,st⟩
theorem mS.lt (x:mS P w H h)(e:H a=some o):a<h.objs.size:=(x a o e).lt
theorem mS.fresh (x:mS P w H h)(e:h.objs.size<=a):H a=none:=by
 cases q:H a with
 |none=>rfl
 |some u=>exact absurd (zak (x.lt q) e) (zaJ _)
theorem mS.gZ (x:mS P w H h)(k:∀b u,h.get? b=some u->h'.get? b=some u):mS P w H h':=λa o e =>
 (x a o e).pU (λb u _ q=>k b u q) (λ_ q=>q) λ_ _ q=>q
theorem mS.jF (x:mS P w H h)(k:∀b u,h.get? b=some u->h'.get? b=some u)(hp:h.objs.size<=a)(new:cD P w (bF H a o) h' a o):mS P w (bF H a o) h':=λb u e=>by
 have hn:=x.fresh hp;by_cases hb:b=a
 ·subst hb;rw[ay] at e;cases e;exact new
 ·rw[au hb] at e
  exact (x b u e).pU (λc v _ q=>k c v q) (λc q=>by rw[au (fu q hn)];exact q) λc xs q=>by rw[au (fu q hn)];exact q
noncomputable def Rd (H:Hp)(a:Addr)(u:HO):Prop:=H a=some u\/∃o,H a=some (.pP o u)
theorem Rd.ok (r:Rd H a u)(x:mS P w H h):cD P w H h a u:=by
 rcases r with r|⟨o,r⟩
 ·exact x a u r
 ·obtain⟨_,q⟩:=x a _ r
  exact q
noncomputable def Mut:Option HO->Prop
 |some (.bM _)=>True
 |some (.dK _)=>True
 |some (.dT _)=>True
 |some (.set _ _)=>True
 |some (.dZ _ _ _)=>True
 |some (.ext _)=>True
 |_=>False
theorem mS.ji (ok:mS P w H h)(mu:Mut (H x))(he:e=x\/H e=some (.sD x))(k:∀b u,b≠e->h.get? b=some u->h'.get? b=some u)(heo:∃u,h'.get? e=some u)
  (new:cD P w (bF H x o') h' x o'):mS P w (bF H x o') h':=λb u q=>by
 have afu:∀c y,H c=some (.sD y)->c≠x:=λc y r z=>by subst z;rw[r] at mu;exact mu
 have akR:∀c xs,H c=some (.gE xs)->c≠x:=λc xs r z=>by subst z;rw[r] at mu;exact mu
 by_cases hb:b=x
 ·subst hb;rw[ay] at q;cases q;exact new
 ·rw[au hb] at q
  by_cases YV:b=e
  ·have q':H b=some (.sD x):=by
    rcases he with z|z
    ·exact absurd (YV.trans z) hb
    ·rw[YV];exact z
   rw[q] at q';cases q'
   obtain⟨v,hv⟩:=heo;exact⟨v,by rw[YV];exact hv⟩
  ·refine (ok b u q).pU (λc v hc r=>k c v ?_ r) (λc r=>by rw[au (afu c b r)];exact r) λc xs r=>by rw[au (akR c xs r)];exact r
   rcases hc with rfl|hc
   ·exact YV
   ·rintro rfl
    rcases he with z|z
    ·exact afu c b hc z
    ·rw[hc] at z;cases z;exact hb rfl
structure Un (fs ex:List Addr) (H H':Hp) (h h':Heap):Prop where
 keep:∀b o,h.get? b=some o->H b=none->b∉fs->b∉ex->h'.get? b=some o
 slot:∀b o,h.get? b=some o->H b=none->b∈fs->b∉ex->∃sl,h'.get? b=some {o with slots:=sl}
 free:∀b o,h.get? b=some o->H b=none->b∉ex->H' b=none
 there:∀b o,h.get? b=some o->b∉ex->∃o',h'.get? b=some o'
 sE:∀b xs,H b=some (.gE xs)->H' b=some (.gE xs)
 q_:∀b o u,H b=some (.pP o u)->H' b=some (.pP o u)
 sF:∀b ps,H b=some (.YT ps)->∃jx,H' b=some (.YT (ps++jx))
theorem Un.any (u:Un fs ex H H1 h h1)(q:h.get? b=some ob)(n:H b=none)(hx:b∉ex):∃sl,h1.get? b=some {ob with slots:=sl}:=by
 by_cases hb:b∈fs
 ·exact u.slot b ob q n hb hx
 ·exact⟨ob.slots,u.keep b ob q n hb hx⟩
theorem Un.gZ (k:∀b u,h.get? b=some u->h'.get? b=some u):Un fs ex H H h h':=
 ⟨λb ob q _ _ _=>k b ob q,λb ob q _ _ _=>⟨ob.slots,k b ob q⟩,λ_ _ _ n _=>n,λb ob q _=>⟨ob,k b ob q⟩,λ_ _ q=>q,λ_ _ _ q=>q,λ_ ps q=>⟨#[],by rw[q];simp⟩⟩
theorem Un.refl:Un fs ex H H h h:=Un.gZ λ_ _ q=>q
theorem Un.jF (k:∀b u,h.get? b=some u->h'.get? b=some u)(hp:h.objs.size<=a)(hn:H a=none):Un fs ex H (bF H a o) h h' where
 keep:=λb u q _ _ _=>k b u q
 slot:=λb u q _ _ _=>⟨u.slots,k b u q⟩
 free:=λb u q n _=>by rw[au (zar (zak (zam q) hp))];exact n
 there:=λb u q _=>⟨u,k b u q⟩
 sE:=λb xs q=>by rw[au (fu q hn)];exact q
 q_:=λb u xs q=>by rw[au (fu q hn)];exact q
 sF:=λb ps q=>⟨#[],by rw[au (fu q hn),q];simp⟩
theorem Un.ji (mu:Mut (H x))(he:e=x\/H e=some (.sD x))(k:∀b u,b≠e->h.get? b=some u->h'.get? b=some u)(heo:∃u,h'.get? e=some u):Un fs ex H (bF H x o) h h':=by
 have hx:∀b,H b=none->b≠x:=λb n z=>by subst z;rw[n] at mu;exact mu
 have hb:∀b,H b=none->b≠e:=λb n z=>by
  subst z;rcases he with r|r
  ·exact hx b n r
  ·rw[n] at r;cases r
 have hm:∀b u,H b=some u->¬ Mut (some u)->b≠x:=λb u q nm z=>by subst z;rw[q] at mu;exact nm mu
 refine⟨λb u q n _ _=>k b u (hb b n) q,λb u q n _ _=>⟨u.slots,k b u (hb b n) q⟩,λb u q n _=>by rw[au (hx b n)];exact n,λb u q _=>?_,
  λb xs q=>by rw[au (hm b _ q λz=>z)];exact q,λb u xs q=>by rw[au (hm b _ q λz=>z)];exact q,λb ps q=>⟨#[],by rw[au (hm b _ q λz=>z),q];simp⟩⟩
 by_cases YV:b=e
 ·subst YV;exact heo
 ·exact⟨u,k b u YV q⟩
noncomputable def trk (h:Heap)(H:Hp):List Addr:=(List.range h.objs.size).filter λa=>(H a).isSome
noncomputable def yT (h:Heap)(H:Hp):Heap:=PySem.W.hideAll h (trk h H)
theorem H_ (h:Heap)(H:Hp):(yT h H).objs.size=h.objs.size:=PySem.W.hideAll_size _ _
theorem Ks (e:h.get? b=some o)(n:H b=none):(yT h H).get? b=some o:=
 PySem.W.hideAll_get _ e λhm=>by
  have q:(H b).isSome=true:=(List.mem_filter.mp hm).2
  rw[n] at q;simp at q
theorem Qv (e:(yT h H).get? b=some o):h.get? b=some o/\H b=none:=by
 have e':h.get? b=some o:=PySem.W.of_hideAll (trk h H) e
 refine⟨e',?_⟩
 cases q:H b with
 |none=>rfl
 |some x =>
  have hm:b∈trk h H:=List.mem_filter.mpr ⟨zdS.mpr (zam e'),by simp[q]⟩
  have z:(yT h H).get? b=none:=PySem.W.hideAll_none (trk h H) hm
  rw[z] at e;cases e
structure Mod (K:PySem.W.Frag) (mg:Str->Option Value) (base:Heap):Prop where
 YW:K.In base
 sG:base.Ns mainGlobals mg
 U6:∃mb,base.Ns builtinsNs mb/\∀x:Str,x ≠ "__name__" -> mb x=bootBuiltins x
 nolimit:base.NoLimit
structure Cx where
 prog:Program
 w:World
 K:PySem.W.Frag
 mg:Str->Option Value
 base:Heap
 A:Around
 N:List Str
 s₀:Shared
 H₀:Hp
 env:Env
 outer:List Env
 c_:List Env
 ex:List Addr
 fn:Str->Bool
 fX:Bool
 pn:List (Addr×Obj)
 xe:Value->Shared->Prop
noncomputable def rP (l:List Env):List Addr:=l.filterMap (·.frame)
noncomputable abbrev Cx.fs (X:Cx):List Addr:=rP X.outer
noncomputable def Vis (sc:Scope)(x:Str):Prop:=sc.names.lookup x=some .local\/sc.names.lookup x=some .cell\/sc.names.lookup x=some .free
noncomputable def U7 (sc:Scope)(x:Str):Prop:=sc.names.lookup x=some .local\/sc.names.lookup x=some .cell
noncomputable def akS (env:Env)(h:Heap)(m:Str->Option Value)(x:Str)(u:Value):Prop:=
 (env.kindOf x=some .local/\m x=some u)\/((env.kindOf x=some .cell\/env.kindOf x=some .free)/\∃c,env.cells.lookup x=some c/\h.IsCell c (some u))
structure Cx.Ok (X:Cx):Prop where
 sH:Mod X.K X.mg X.base
 kind:X.env.scope.kind = .function
 sG:X.env.globals=mainGlobals
 U6:X.env.builtins=builtinsNs
 above:X.s₀.heap.objs.size<=X.env.locals
 inj:∀x y c,X.env.cells.lookup x=some c->X.env.cells.lookup y=some c->x=y
 has:∀x,(X.env.kindOf x=some .cell\/X.env.kindOf x=some .free)->∃c,X.env.cells.lookup x=some c
 YX:∀x c,X.fn x=true->X.env.cells.lookup x=some c->X.s₀.heap.objs.size<=c
 hd:X.fX=true->X.A.handled=none
 frames:X.A.frames=some X.c_
 stk:X.c_=X.outer\/(X.c_=X.env::X.outer/\X.env.frame=some X.env.locals)
 exf:∀b∈X.ex,b≠X.env.locals/\∀x c,X.env.cells.lookup x=some c->c≠b
 bs:∀b o,X.base.get? b=some o->X.s₀.heap.get? b=some o/\X.H₀ b=none
 Qj:X.base.objs.size<=X.s₀.heap.objs.size
 jf:∀b o,X.base.get? b=some o->b∉X.ex
 Dp:∀b∈X.ex,b∉X.fs
 j9:X.s₀.heap.FunFrames X.base X.outer
 Ku:∀b∈X.fs,X.H₀ b=none
structure aL (X:Cx) (ah:List (Addr×Obj)) (σ:List (Option V)) (H:Hp) (s:Shared):Prop where
 ok:X.Ok
 os:s.os=X.s₀.os
 g5:AllBare s.gens
 base:Un X.fs X.ex X.H₀ H X.s₀.heap s.heap
 Ay:∃m,s.heap.Ns X.env.locals m/\∀(i:Nat) (x:Str) (v:V),X.N[i]? = some x -> σ[i]? = some (some v)->Vis X.env.scope x->∃u,bI v u/\akS X.env s.heap m x u
 cell:∀x c,X.env.cells.lookup x=some c->∃v,s.heap.IsCell c v
 free:H X.env.locals=none
 jG:∀x c,X.env.cells.lookup x=some c->H c=none
 AF:∀p∈X.pn++ah,s.heap.get? p.1=some p.2/\H p.1=none/\p.1≠X.env.locals/\p.1∉X.fs/\∀v,p.2.data ≠ .cell v
 b_:mS X.prog X.w H s.heap
 len:σ.length=X.N.length
section
variable {X:Cx}{ah:List (Addr×Obj)}{σ:List (Option V)}{H H':Hp}{s:Shared}{h':Heap}
theorem Cx.Ok.akT (ok:X.Ok)(e:X.base.get? b=some o):b∉X.fs:=λhb=>by
 have:=(ok.j9.mem hb).1
 rw[e] at this;cases this
theorem aL.bs (I:aL X ah σ H s):∀b o,X.base.get? b=some o->s.heap.get? b=some o/\H b=none:=λb o e =>
 ⟨I.base.keep b o (I.ok.bs b o e).1 (I.ok.bs b o e).2 (I.ok.akT e) (I.ok.jf b o e),I.base.free b o (I.ok.bs b o e).1 (I.ok.bs b o e).2 (I.ok.jf b o e)⟩
theorem aL.bk (I:aL X ah σ H s):∀b o,X.base.get? b=some o->s.heap.get? b=some o:=λb o e=>(I.bs b o e).1
theorem aL.sH (I:aL X ah σ H s):Mod X.K X.mg X.base:=I.ok.sH
theorem aL.jH (I:aL X ah σ H s):X.K.In s.heap:=I.ok.sH.YW.keeps I.bk
theorem aL.lt (I:aL X ah σ H s):X.env.locals<s.heap.objs.size:=let ⟨_,hn,_⟩:=I.Ay;hn.lt
theorem aL.sz (I:aL X ah σ H s):X.s₀.heap.objs.size<=s.heap.objs.size:=zai I.ok.above (zen I.lt)
theorem aL.akU (I:aL X ah σ H s)(h:s.heap.objs.size<=a):a∉X.fs:=λhb=>by
 obtain⟨_,o,ho,_⟩:=I.ok.j9.mem hb;exact absurd (zak (zam ho) (zai I.sz h)) (zaJ _)
theorem aL.Kv (I:aL X ah σ H s):∀x c,X.env.cells.lookup x=some c->c≠X.env.locals:=λx c e z=>by
 obtain⟨v,o,ho,hd⟩:=I.cell x c e;obtain⟨m,⟨o',es,ep,vW,U8,_⟩,_⟩:=I.Ay
 rw[z,vW] at ho;cases ho;rw[U8] at hd;cases hd
theorem aL.j9 (I:aL X ah σ H s):s.heap.FunFrames X.base X.outer:=by
 have all:∀(l:List Env),(∀b∈rP l,b∈X.fs)->X.s₀.heap.FunFrames X.base l->s.heap.FunFrames X.base l:=by
  intro l;induction l with
  |nil=>intro _ _;trivial
  |cons env r ih =>
   intro hs hl;obtain⟨hk,⟨L,o,hf,hn,ho,hd⟩,hr⟩:=hl
   have hL:L∈X.fs:=hs L (by unfold rP;rw[zco,hf];exact zbJ)
   obtain⟨sl,e⟩:=I.base.slot L o ho (I.ok.Ku L hL) hL λz=>I.ok.Dp L z hL
   exact⟨hk,⟨L,_,hf,hn,e,hd⟩,ih (λb hb=>hs b (by unfold rP;rw[zco,hf];exact zaO _ hb)) hr⟩
 exact all X.outer (λ_ hb=>hb) I.ok.j9
theorem aL.c_ (I:aL X ah σ H s):s.heap.FunFrames X.base X.c_:=by
 rcases I.ok.stk with e|⟨e,hf⟩
 ·rw[e];exact I.j9
 ·rw[e]
  obtain⟨m,hn,_⟩:=I.Ay;refine .cons (by rw[I.ok.kind];decide) hf hn ?_ I.j9
  exact Heap.get?_none_of_le (zai I.ok.Qj I.ok.above)
theorem aL.Dq (I:aL X ah σ H s):∀b∈rP X.c_,b∈X.env.locals::X.fs:=λb hb=>by
 rcases I.ok.stk with e|⟨e,hf⟩
 ·rw[e] at hb;exact zaO _ hb
 ·rw[e] at hb
  unfold rP at hb;rw[zco,hf] at hb;exact hb
theorem aL.FA (I:aL X ah σ H s):∀b∈rP X.c_,H b=none:=λb hb=>by
 rcases zan.mp (I.Dq b hb) with e|hb
 ·rw[e];exact I.free
 ·obtain⟨_,o,ho,_⟩:=I.ok.j9.mem hb
  exact I.base.free b o ho (I.ok.Ku b hb) λz=>I.ok.Dp b z hb
theorem aL.AG {g':Array GenState}{t':Nat}{d':Drawn}{ch:List Addr}(I:aL X ah σ H s)
  (Qk:∀b∈ch,(b∈X.ex\/X.s₀.heap.objs.size<=b)/\b≠X.env.locals/\(∀x c,X.env.cells.lookup x=some c->c≠b)/\∀p∈X.pn++ah,p.1≠b)
  (keep:∀b o,b≠X.env.locals->b∉X.fs->b∉ch->s.heap.get? b=some o->H b=none->h'.get? b=some o)
  (slot:∀b o,b≠X.env.locals->b∈X.fs->b∉ch->s.heap.get? b=some o->H b=none->∃sl,h'.get? b=some {o with slots:=sl}) (free:∀b o,b∉ch->s.heap.get? b=some o->H b=none->H' b=none)
  (there:∀b o,b∉ch->s.heap.get? b=some o->∃o',h'.get? b=some o')
  (sE:∀b xs,H b=some (.gE xs)->H' b=some (.gE xs)) (q_:∀b o u,H b=some (.pP o u)->H' b=some (.pP o u)) (sF:∀b ps,H b=some (.YT ps)->∃jx,H' b=some (.YT (ps++jx)))
  (ns:∀m,s.heap.Ns X.env.locals m->h'.Ns X.env.locals m) (b_:mS X.prog X.w H' h') (hg:AllBare g'):
  aL X ah σ H' {s with heap:=h',gens:=g',drawn:=d',toks:=t' }:=by
 have neL:∀b o,X.s₀.heap.get? b=some o->b≠X.env.locals:=λb o e=>zar (zak (zam e) I.ok.above)
 have neC:∀b o,X.s₀.heap.get? b=some o->b∉X.ex->b∉ch:=λb o e hx hb=>by
  rcases (Qk b hb).1 with z|z
  ·exact hx z
  ·exact absurd (zak (zam e) z) (zaJ _)
 have U9:∀x c,X.env.cells.lookup x=some c->∀v,s.heap.IsCell c v->h'.IsCell c v:=λx c e v ⟨o,ho,hd⟩=>by
  have nch:c∉ch:=λz=>(Qk c z).2.2.1 x c e rfl
  by_cases hc:c∈X.fs
  ·obtain⟨sl,q⟩:=slot c o (I.Kv x c e) hc nch ho (I.jG x c e)
   exact⟨_,q,hd⟩
  ·exact⟨o,keep c o (I.Kv x c e) hc nch ho (I.jG x c e),hd⟩
 refine⟨I.ok,I.os,hg,⟨λb o e n hb hx=>?_,λb o e n hb hx=>?_,λb o e n hx=>?_,λb o e hx=>?_,λb xs e=>sE b xs (I.base.sE b xs e),λb o xs e=>q_ b o xs (I.base.q_ b o xs e),λb ps e=>?_⟩,?_,λx c e=>?_,?_,λx c e=>?_,λp hp=>?_,b_,I.len⟩
 ·exact keep b o (neL b o e) hb (neC b o e hx) (I.base.keep b o e n hb hx) (I.base.free b o e n hx)
 ·obtain⟨sl,e1⟩:=I.base.slot b o e n hb hx
  obtain⟨Kw,e2⟩:=slot b _ (neL b o e) hb (neC b o e hx) e1 (I.base.free b o e n hx)
  exact⟨Kw,e2⟩
 ·obtain⟨o',e1⟩:=I.base.there b o e hx
  exact free b o' (neC b o e hx) e1 (I.base.free b o e n hx)
 ·obtain⟨o',e1⟩:=I.base.there b o e hx
  exact there b o' (neC b o e hx) e1
 ·obtain⟨m1,e1⟩:=I.base.sF b ps e
  obtain⟨m2,e2⟩:=sF b _ e1;exact⟨m1++m2,by rw[e2,Array.append_assoc]⟩
 ·obtain⟨m,hn,hl⟩:=I.Ay
  refine⟨m,ns m hn,λi x v e1 e2 e3=>?_⟩
  obtain⟨u,r,l⟩:=hl i x v e1 e2 e3;refine⟨u,r,?_⟩
  rcases l with l|⟨k,c,e,z⟩
  ·exact .inl l
  ·exact .inr ⟨k,c,e,U9 x c e _ z⟩
 ·obtain⟨v,z⟩:=I.cell x c e
  exact⟨v,U9 x c e v z⟩
 ·obtain⟨m,⟨o,_,_,ho,_⟩,_⟩:=I.Ay
  exact free _ o (λz=>(Qk _ z).2.1 rfl) ho I.free
 ·obtain⟨v,o,ho,hd⟩:=I.cell x c e
  exact free c o (λz=>(Qk c z).2.2.1 x c e rfl) ho (I.jG x c e)
 ·obtain⟨e,n,ne,nf,d⟩:=I.AF p hp
  have nch:p.1∉ch:=λz=>(Qk p.1 z).2.2.2 p hp rfl
  exact⟨keep p.1 p.2 ne nf nch e n,free p.1 p.2 nch e n,ne,nf,d⟩
theorem aL.un {t':Nat}(I:aL X ah σ H s)(u:Un X.fs [] H H' s.heap h')(b_:mS X.prog X.w H' h'):aL X ah σ H' {s with heap:=h',toks:=t' }:=by
 obtain⟨m,⟨o,es,ep,ho,r⟩,_⟩:=id I.Ay
 obtain⟨sl,hL⟩:=u.any ho I.free (by simp)
 exact I.AG (g':=s.gens) (d':=s.drawn) (ch:=[]) (λ_ z=>nomatch z) (λb o _ hb _ e n=>u.keep b o e n hb (by simp)) (λb o _ hb _ e n=>u.slot b o e n hb (by simp)) (λb o _ e n=>u.free b o e n (by simp)) (λb o _ e=>u.there b o e (by simp)) u.sE u.q_ u.sF (λm' hm=>by
  obtain⟨o',es',ep',vW,r'⟩:=hm;rw[ho] at vW;cases vW
  exact⟨_,es',ep',hL,r'⟩) b_ I.g5
theorem aL.call {g':Array GenState}{t':Nat}{d':Drawn}{ch:List Addr}(I:aL X ah σ H s)(u:Un (rP X.c_) ch H H' s.heap h')(b_:mS X.prog X.w H' h')(hg:AllBare g')
  (Qk:∀b∈ch,(b∈X.ex\/X.s₀.heap.objs.size<=b)/\b≠X.env.locals/\(∀x c,X.env.cells.lookup x=some c->c≠b)/\∀p∈X.pn++ah,p.1≠b):
  aL X ah σ H' {s with heap:=h',gens:=g',drawn:=d',toks:=t' }:=by
 obtain⟨m,⟨o,es,ep,ho,r⟩,_⟩:=id I.Ay
 obtain⟨sl,hL⟩:=u.any ho I.free λz=>(Qk _ z).2.1 rfl
 exact I.AG (ch:=ch) Qk (λb o hL hb hc e n=>u.keep b o e n (λz=>(zan.mp (I.Dq b z)).elim hL hb) hc) (λb o _ _ hc e n=>u.any e n hc) (λb o hc e n=>u.free b o e n hc) (λb o hc e=>u.there b o e hc) u.sE u.q_ u.sF (λm' hm=>by
  obtain⟨o',es',ep',vW,r'⟩:=hm;rw[ho] at vW;cases vW
  exact⟨_,es',ep',hL,r'⟩) b_ hg
theorem aL.j_ {t':Nat}{it:Addr}(I:aL X ah σ H s)(k:∀b o,b≠it->s.heap.get? b=some o->h'.get? b=some o)(hn:H it=none)(hL:it≠X.env.locals)
  (h1:it∈X.ex\/X.s₀.heap.objs.size<=it) (h2:∀x c,X.env.cells.lookup x=some c->c≠it) (h3:∀p∈X.pn++ah,p.1≠it):aL X ah σ H {s with heap:=h',toks:=t' }:=by
 have nit:∀b u,H b=some u->b≠it:=λb u e z=>by rw[z,hn] at e;cases e
 refine I.AG (g':=s.gens) (d':=s.drawn) (ch:=[it]) (λb hb=>?_) (λb o _ _ hc e _=>k b o (λz=>hc (by simp[z])) e) (λb o _ _ hc e _=>⟨o.slots,k b o (λz=>hc (by simp[z])) e⟩) (λ_ _ _ _ n=>n)
  (λb o hc e=>⟨o,k b o (λz=>hc (by simp[z])) e⟩) (λ_ _ e=>e) (λ_ _ _ e=>e) (λb ps e=>⟨#[],by rw[e];simp⟩) (λm hm=>?_) (λb u e=>?_) I.g5
 ·have e:b=it:=by simpa using hb
  subst e;exact⟨h1,hL,h2,h3⟩
 ·obtain⟨o,es,ep,ho,r⟩:=hm
  exact⟨o,es,ep,k _ o (zbc hL) ho,r⟩
 ·refine (I.b_ b u e).pU (λc v hc q=>k c v ?_ q) (λ_ q=>q) λ_ _ q=>q
  rcases hc with z|z
  ·rw[z];exact nit b u e
  ·exact nit c _ z
theorem aL.nH (I:aL X ah σ H s)(t:Nat):aL X ah σ H {s with toks:=t}:=I.un (h':=s.heap) (t':=t) Un.refl I.b_
theorem aL.gZ (I:aL X ah σ H s)(k:∀b u,s.heap.get? b=some u->h'.get? b=some u):aL X ah σ H {s with heap:=h',toks:=t' }:=I.un (Un.gZ k) (I.b_.gZ k)
theorem aL.jF (I:aL X ah σ H s)(k:∀b u,s.heap.get? b=some u->h'.get? b=some u)(hp:s.heap.objs.size<=a)(new:cD X.prog X.w (bF H a o) h' a o):
  aL X ah σ (bF H a o) {s with heap:=h',toks:=t' }:=I.un (Un.jF k hp (I.b_.fresh hp)) (I.b_.jF k hp new)
theorem aL.ji (I:aL X ah σ H s)(mu:Mut (H x))(he:e=x\/H e=some (.sD x))(k:∀b u,b≠e->s.heap.get? b=some u->h'.get? b=some u)(heo:∃u,h'.get? e=some u)
  (new:cD X.prog X.w (bF H x o) h' x o):aL X ah σ (bF H x o) {s with heap:=h',toks:=t' }:=I.un (Un.ji mu he k heo) (I.b_.ji mu he k heo new)
theorem aL.FD (I:aL X ah σ H s)(h:∀p∈afw,s.heap.get? p.1=some p.2/\H p.1=none/\p.1≠X.env.locals/\p.1∉X.fs/\∀v,p.2.data ≠ .cell v):aL X afw σ H s:=
 ⟨I.ok,I.os,I.g5,I.base,I.Ay,I.cell,I.free,I.jG,λp hp=>(zbL.mp hp).elim (λz=>I.AF p (zcl _ z)) (h p),I.b_,I.len⟩
theorem sI {N:List Str}(hN:N.Nodup){i j:Nat}{x:Str}(a:N[i]? = some x)(b:N[j]? = some x):i=j:=by
 obtain⟨h1,e1⟩:=zab.mp a
 obtain⟨h2,e2⟩:=zab.mp b
 exact (List.getElem_inj hN).mp (e1.trans e2.symm)
theorem wA {M:Model}{A:Around}{E:Value->Shared->Prop}{i:Nat}{x:Str}{v:V}{u:Value}{Q:Unit->Shared->Prop}(I:aL X ah σ H s)(hN:X.N.Nodup)(hi:X.N[i]? = some x)(hx:U7 X.env.scope x)(r:bI v u)
  (h:∀s',aL X ah (σ.set i (some v)) H s'->(∃a,Heap.SameBut a s.heap s'.heap/\(a=X.env.locals\/X.env.cells.lookup x=some a))->Q () s') (hf:autoParam (X.fn x=true\/X.env.scope.names.lookup x=some .local) zp_4):wpAny M A (storeName X.env x u) Q E s:=by
 obtain⟨m,hn,hl⟩:=id I.Ay;have Ky:(X.env.scope.kind == .class || (X.env.scope.kind == .module && X.env.locals != X.env.globals))=false:=by rw[I.ok.kind];rfl
 have afx:i<σ.length:=by rw[I.len];exact (zab.mp hi).1
 have Kv:=I.Kv;have oq:∀{a:Addr} {h':Heap},(∃o,s.heap.get? a=some o/\H a=none)->Heap.SameBut a s.heap h'->mS X.prog X.w H h':=λ{a h'} ha hs b ob e=>by
  obtain⟨_,_,wB⟩:=ha;refine (I.b_ b ob e).pU (λc w' hc q=>(hs.2 c ?_).trans q) (λ_ q=>q) λ_ _ q=>q
  rintro rfl
  rcases hc with rfl|hc
  ·rw[wB] at e;cases e
  ·rw[wB] at hc;cases hc
 rcases hx with hk|hk
 ·refine wpAny_storeName_local hk hn (λh' hn' hs=>?_) Ky
  obtain⟨oL,_,_,hoL,_⟩:=id hn;refine h _ ⟨I.ok,I.os,I.g5,⟨λb o e n hb hx=>?_,λb o e n hb hx=>?_,I.base.free,λb o e hx=>?_,I.base.sE,I.base.q_,I.base.sF⟩,⟨_,hn',λj y v' e1 e2 e3=>?_⟩,λy c e=>?_,I.free,I.jG,λp hp=>?_,oq ⟨oL,hoL,I.free⟩ hs,by simpa using I.len⟩ ⟨_,hs,.inl rfl⟩
  ·exact (hs.2 b (zar (zak (zam e) I.ok.above))).trans (I.base.keep b o e n hb hx)
  ·obtain⟨sl,e1⟩:=I.base.slot b o e n hb hx
   exact⟨sl,(hs.2 b (zar (zak (zam e) I.ok.above))).trans e1⟩
  ·obtain⟨o',e1⟩:=I.base.there b o e hx
   exact⟨o',(hs.2 b (zar (zak (zam e) I.ok.above))).trans e1⟩
  ·by_cases hj:j=i
   ·subst hj
    rw[hi] at e1;cases e1
    rw[zaz afx] at e2;cases e2;exact⟨u,r,.inl ⟨hk,by simp⟩⟩
   ·rw[zax (zbc hj)] at e2
    obtain⟨u',r',q⟩:=hl j y v' e1 e2 e3;refine⟨u',r',?_⟩
    rcases q with⟨k,e⟩|⟨k,c,e,z⟩
    ·refine .inl ⟨k,?_⟩
     have:y≠x:=λe=>hj (sI hN e1 (e ▸ hi))
     simp[this,e]
    ·exact .inr ⟨k,c,e,z.sameBut hs (Kv y c e)⟩
  ·obtain⟨w',z⟩:=I.cell y c e
   exact⟨w',z.sameBut hs (Kv y c e)⟩
  ·obtain⟨e,n,ne,nf,d⟩:=I.AF p hp
   exact⟨(hs.2 p.1 ne).trans e,n,ne,nf,d⟩
 ·have hfn:X.fn x=true:=by
   rcases hf with z|z
   ·exact z
   ·rw[z] at hk;cases hk
  obtain⟨c,hc⟩:=I.ok.has x (.inl hk)
  obtain⟨w',z⟩:=I.cell x c hc;refine wpAny_storeName_cell I.ok.kind hk hc z (λh' Qw hs=>?_)
  obtain⟨oc,hoc,akY⟩:=id z;refine h {s with heap:=h' } ⟨I.ok,I.os,I.g5,⟨λb o e n hb hx=>?_,λb o e n hb hx=>?_,I.base.free,λb o e hx=>?_,I.base.sE,I.base.q_,I.base.sF⟩,⟨m,hn.sameBut hs (zbc (Kv x c hc)),λj y v' e1 e2 e3=>?_⟩,λy c' e=>?_,I.free,I.jG,λp hp=>?_,oq ⟨oc,hoc,I.jG x c hc⟩ hs,by simpa using I.len⟩ ⟨c,hs,.inr hc⟩
  ·exact (hs.2 b (zar (zak (zam e) (I.ok.YX x c hfn hc)))).trans (I.base.keep b o e n hb hx)
  ·obtain⟨sl,e1⟩:=I.base.slot b o e n hb hx
   exact⟨sl,(hs.2 b (zar (zak (zam e) (I.ok.YX x c hfn hc)))).trans e1⟩
  ·obtain⟨o',e1⟩:=I.base.there b o e hx
   exact⟨o',(hs.2 b (zar (zak (zam e) (I.ok.YX x c hfn hc)))).trans e1⟩
  ·by_cases hj:j=i
   ·subst hj
    rw[hi] at e1;cases e1
    rw[zaz afx] at e2;cases e2;exact⟨u,r,.inr ⟨.inl hk,c,hc,Qw⟩⟩
   ·rw[zax (zbc hj)] at e2
    obtain⟨u',r',q⟩:=hl j y v' e1 e2 e3;refine⟨u',r',?_⟩
    rcases q with q|⟨k,c',e,z'⟩
    ·exact .inl q
    ·refine .inr ⟨k,c',e,z'.sameBut hs ?_⟩
     rintro rfl
     exact hj (sI hN e1 (I.ok.inj _ _ _ e hc ▸ hi))
  ·by_cases hcc:c'=c
   ·subst hcc;exact⟨_,Qw⟩
   ·obtain⟨w2,z2⟩:=I.cell y c' e
    exact⟨w2,z2.sameBut hs hcc⟩
  ·obtain⟨e,n,ne,nf,d⟩:=I.AF p hp
   refine⟨(hs.2 p.1 ?_).trans e,n,ne,nf,d⟩
   intro q;rw[q,hoc] at e;have q':oc=p.2:=zav e
   exact d w' (by rw[<-q'];exact akY)
theorem ou (I:aL X ah σ H s)(hN:X.N.Nodup)(hi:X.N[i]? = some x)(hx:U7 X.env.scope x)(r:bI v u)
  (h:∀s',aL X ah (σ.set i (some v)) H s'->Q () s') (hf:autoParam (X.fn x=true\/X.env.scope.names.lookup x=some .local) zp_4):wpAny M A (storeName X.env x u) Q E s:=
 wA I hN hi hx r (λs' I' _=>h s' I') hf
theorem aL.AH (I:aL X ah σ H s)(ho:s'.os=s.os)(u:Un (rP X.c_) ch H H' s.heap s'.heap)(b_:mS X.prog X.w H' s'.heap)(hg:AllBare s'.gens)
  (Qk:∀b∈ch,(b∈X.ex\/X.s₀.heap.objs.size<=b)/\b≠X.env.locals/\(∀x c,X.env.cells.lookup x=some c->c≠b)/\∀p∈X.pn++ah,p.1≠b):aL X ah σ H' s':=by
 obtain⟨h',g',d',t',o'⟩:=s';have e:o'=s.os:=ho
 subst e;exact I.call (g':=g') (t':=t') (d':=d') u b_ hg Qk
end
noncomputable abbrev XK:=Value->Option Addr->Hp->Prop
noncomputable abbrev St:=List (Option V)
noncomputable abbrev VK:=V->Hp->Prop
noncomputable abbrev TE:=St->Hp->VK->Prop
noncomputable abbrev TT:=St->Hp->(Bool->Hp->Prop)->Prop
noncomputable abbrev TA:=St->Hp->(List V->Hp->Prop)->Prop
structure sJ where
 nx:St->Hp->Prop
 rt:VK
 bk:St->Hp->Prop:=λ_ _=>False
 ct:St->Hp->Prop:=λ_ _=>False
noncomputable abbrev TS:=sJ->St->Hp->Prop
noncomputable def EP (X:Cx)(ah:List (Addr×Obj))(σ:St)(Q:VK)(u:Value)(s':Shared):Prop:=∃v H',aL X ah σ H' s'/\bI v u/\Q v H'
noncomputable def TP (X:Cx)(ah:List (Addr×Obj))(σ:St)(Q:Bool->Hp->Prop)(b:Bool)(s':Shared):Prop:=∃H',aL X ah σ H' s'/\Q b H'
noncomputable def AP (X:Cx)(ah:List (Addr×Obj))(σ:St)(Q:List V->Hp->Prop)(us:List Value)(s':Shared):Prop:=∃vs H',aL X ah σ H' s'/\bL vs us/\Q vs H'
noncomputable def SP (X:Cx)(ah:List (Addr×Obj))(D:sJ)(f:Flow)(s':Shared):Prop:=
 match f with
 |.next=>∃d7 H',aL X ah d7 H' s'/\D.nx d7 H'
 |.brk=>∃d7 H',aL X ah d7 H' s'/\D.bk d7 H'
 |.cont=>∃d7 H',aL X ah d7 H' s'/\D.ct d7 H'
 |.ret u=>∃v d7 H',aL X ah d7 H' s'/\bI v u/\D.rt v H'
noncomputable def PE (X:Cx)(e:Expr)(t:TE):Prop:=
 ∀(ah:List (Addr×Obj)) (s:Shared) (σ:St) (H:Hp) (Q:VK),aL X ah σ H s->t σ H Q->wpAny (model X.prog X.w) X.A (eval e X.env) (EP X ah σ Q) X.xe s
noncomputable def PT (X:Cx)(e:Expr)(t:TT):Prop:=
 ∀(ah:List (Addr×Obj)) (s:Shared) (σ:St) (H:Hp) (Q:Bool->Hp->Prop),aL X ah σ H s->t σ H Q->wpAny (model X.prog X.w) X.A (isTrue e X.env (eval e X.env)) (TP X ah σ Q) X.xe s
noncomputable def PW (X:Cx)(e:Expr)(t:TT):Prop:=
 ∀(sL:Sem Value) (ah:List (Addr×Obj)) (s:Shared) (σ:St) (H:Hp) (Q:Bool->Hp->Prop),aL X ah σ H s->t σ H Q->wpAny (model X.prog X.w) X.A (isTrue e X.env sL) (TP X ah σ Q) X.xe s
theorem PW.pt (h:PW X e t):PT X e t:=h _
noncomputable def PA (X:Cx)(es:List Expr)(t:TA):Prop:=
 ∀(pos:Pos) (ah:List (Addr×Obj)) (s:Shared) (σ:St) (H:Hp) (Q:List V->Hp->Prop),aL X ah σ H s->t σ H Q->wpAny (model X.prog X.w) X.A (spliced (backTo pos (starEach es X.env))) (AP X ah σ Q) X.xe s
noncomputable def PS (X:Cx)(st:Stmt)(t:TS):Prop:=
 ∀(ah:List (Addr×Obj)) (s:Shared) (σ:St) (H:Hp) (D:sJ),aL X ah σ H s->t D σ H->wpAny (model X.prog X.w) X.A (exec st X.env) (SP X ah D) X.xe s
noncomputable def wC (X:Cx)(st:List Stmt)(t:TS):Prop:=
 ∀(ah:List (Addr×Obj)) (s:Shared) (σ:St) (H:Hp) (D:sJ),aL X ah σ H s->t D σ H->wpAny (model X.prog X.w) X.A (execs st X.env) (SP X ah D) X.xe s
theorem cQ {α:Type}{t:Sem α}{Q Q' : α -> Shared->Prop}{M:Model}{A:Around}{E:Value->Shared->Prop}{s:Shared}(h:wpAny M A t Q E s)(hQ:∀a s,Q a s->Q' a s):wpAny M A t Q' E s:=zaH h hQ λ_ _ x=>x
section
variable {X:Cx}
noncomputable def afy (i:Nat):TE:=λσ H Q=>∃v,σ[i]? = some (some v)/\Q v H
noncomputable def tC (v:V):TE:=λ_ H Q=>Q v H
theorem Kz (hN:X.N[i]? = some x)(hv:Vis X.env.scope x)(hd:autoParam ((x == ("__debug__" : Str))=false) zp_1)(AI:autoParam ((x == ("__classdict__" : Str))=false) zp_1):PE X (.Name x pos) (afy i):=by
 intro ah s σ H Q I h;obtain⟨v,e,h⟩:=h;obtain⟨m,hn,hl⟩:=I.Ay;obtain⟨u,r,l⟩:=hl i x v hN e hv;have eO:EP X ah σ Q u s:=⟨v,H,I,r,h⟩
 rcases l with⟨hk,hm⟩|⟨hk,c,hc,AJ⟩
 ·exact wpAny_Name (wpAny_loadName_local I.ok.kind hk hn hm eO) hd
 ·rcases hk with hk|hk
  ·exact wpAny_Name (wpAny_loadName_cell I.ok.kind hk hc AJ eO) hd
  ·exact wpAny_Name (wpAny_loadName_free I.ok.kind hk hc AJ eO AI) hd
theorem YY {i j pos}:PE X (.Constant (.int i) j pos) (tC (.int i)):=λ_ _ _ H _ I h=>wpAny_Constant_int ⟨.int i,H,I.nH _,⟨_,rfl⟩,h⟩
theorem afz {b j pos}:PE X (.Constant (.bool b) j pos) (tC (.bl b)):=λ_ _ _ H _ I h=>Constant_bool ⟨.bl b,H,I,rfl,h⟩
theorem YZ {j pos}:PE X (.Constant .none j pos) (tC .br):=λ_ _ _ H _ I h=>Constant_none ⟨.br,H,I,rfl,h⟩
theorem Y0 {x j pos}:PE X (.Constant (.str x) j pos) (tC (.str x)):=λ_ _ _ H _ I h=>Calls.Constant_str ⟨.str x,H,I.nH _,⟨_,rfl⟩,h⟩
noncomputable def Gl (X:Cx)(x:Str):Prop:=X.env.kindOf x=some .globalImplicit
theorem mT (I:aL X ah σ H s)(hg:Gl X x)(hm:X.mg x=some u)(h:Q u s)
  (hd:autoParam ((x == ("__debug__" : Str))=false) zp_1):wpAny (model X.prog X.w) X.A (eval (.Name x pos) X.env) Q E s:=
 zdj I.ok.kind hg (Calls.loadGlobal_global (by rw[I.ok.sG];exact I.sH.sG.keeps I.bk) hm h) hd
theorem sM (I:aL X ah σ H s)(hg:Gl X x)(hm:X.mg x=none)(hv:bootBuiltins x=some u)(h:Q u s)
  (hn:autoParam (x ≠ "__name__") zp_1) (hd:autoParam ((x == ("__debug__" : Str))=false) zp_1):wpAny (model X.prog X.w) X.A (eval (.Name x pos) X.env) Q E s:=by
 obtain⟨mb,h1,h2⟩:=I.sH.U6;exact zdj I.ok.kind hg (Calls.loadGlobal_builtin (by rw[I.ok.sG];exact I.sH.sG.keeps I.bk) hm (by rw[I.ok.U6];exact h1.keeps I.bk) ((h2 x hn).trans hv) h) hd
theorem Qx (hg:Gl X x)(hm:X.mg x=some u)(r:bI v u)(hd:autoParam ((x == ("__debug__" : Str))=false) zp_1):PE X (.Name x pos) (tC v):=
 λ_ _ _ H _ I h=>mT I hg hm ⟨v,H,I,r,h⟩ hd
theorem Qy (hg:Gl X x)(hm:X.mg x=none)(hv:bootBuiltins x=some u)(r:bI v u)(hn:autoParam (x ≠ "__name__") zp_1)(hd:autoParam ((x == ("__debug__" : Str))=false) zp_1):PE X (.Name x pos) (tC v):=
 λ_ _ _ H _ I h=>sM I hg hm hv ⟨v,H,I,r,h⟩ hn hd
variable {a b:Expr}{ta tb:TE}{pos:Pos}
noncomputable def PC (X:Cx)(op:CmpOp)(a b:Expr)(t:TE):Prop:=
 ∀(ah:List (Addr×Obj)) (s:Shared) (σ:St) (H:Hp) (Q:VK),aL X ah σ H s->t σ H Q ->
  wpAny (model X.prog X.w) X.A (eval a X.env) (λv cM=>wpAny (model X.prog X.w) X.A (eval b X.env) (λu lV=>wpAny (model X.prog X.w) X.A (compareOp op v u) (EP X ah σ Q) X.xe lV) X.xe cM) X.xe s
noncomputable def tB (t:TE):TT:=λσ H Q=>t σ H λx H1=>∃c,x = .bl c/\Q c H1
theorem Y3 (h:PC X op a b t)(h1:behindInMarks op b=false:=by first|exact KA _ (by decide) (by decide)|rfl):PE X (.Compare a [op] [b] pos) t:=λah s σ H Q I hw=>wpAny_Compare1 (h ah s σ H Q I hw) h1
theorem Y4 (h:PC X op a b t)(h1:behindInMarks op b=false:=by first|exact KA _ (by decide) (by decide)|rfl):PT X (.Compare a [op] [b] pos) (tB t):=by
 intro ah s σ H Q I hw;refine wpAny_isTrue_Compare1 (cQ (h ah s σ H _ I hw) λv s1 h1=>cQ h1 λu s2 h2=>cQ h2 λc s3 ⟨x,H1,I1,r1,q1⟩=>?_) h1
 obtain⟨d,rfl,q⟩:=q1;cases r1;exact zaX ⟨H1,I1,q⟩
theorem Y5 (h:PE X e t)(he:autoParam (∀sL,isTrue e X.env sL=(do let v <-sL;standAt e.pos;holding [v] (truthy v))) zp_3):PT X e (tB t):=by
 intro ah s σ H Q I hw;refine isTrue_plain (cQ (h ah s σ H _ I hw) λv s1 ⟨x,H1,I1,r1,q1⟩=>?_) (he _)
 obtain⟨d,rfl,q⟩:=q1;cases r1;exact zaX ⟨H1,I1,q⟩
variable {tA tB':TT}{dc:List Expr}
noncomputable def akZ (t u:TT):TT:=λσ H Q=>t σ H λc H1=>if c=true then u σ H1 Q else Q false H1
noncomputable def tOr (t u:TT):TT:=λσ H Q=>t σ H λc H1=>if c=true then Q true H1 else u σ H1 Q
noncomputable def ak0 (t:TT):TT:=λσ H Q=>t σ H λc H1=>Q (!c) H1
theorem Qz (ha:PT X a tA):PW X (.BoolOp .And [a] pos) tA:=by
 intro wh ah s σ H Q I h;refine isTrue_and (cQ (ha ah s σ H Q I h) λc s1 e=>?_)
 cases c with
 |true=>exact isTrue_and_nil e
 |false=>exact e
theorem Y6 (ha:PT X a tA):PW X (.BoolOp .Or [a] pos) tA:=by
 intro wh ah s σ H Q I h;refine isTrue_or (cQ (ha ah s σ H Q I h) λc s1 e=>?_)
 cases c with
 |false=>exact isTrue_or_nil e
 |true=>exact e
theorem Y7 (ha:PT X a tA)(hb:PW X (.BoolOp .And (b::dc) pos) tB'):PW X (.BoolOp .And (a::b::dc) pos) (akZ tA tB'):=by
 intro wh ah s σ H Q I h;refine isTrue_and (cQ (ha ah s σ H _ I h) λc s1 ⟨H1,I1,q1⟩=>?_)
 cases c with
 |true=>exact hb wh ah s1 σ H1 Q I1 q1
 |false=>exact⟨H1,I1,q1⟩
theorem afA (ha:PT X a tA)(hb:PW X (.BoolOp .Or (b::dc) pos) tB'):PW X (.BoolOp .Or (a::b::dc) pos) (tOr tA tB'):=by
 intro wh ah s σ H Q I h;refine isTrue_or (cQ (ha ah s σ H _ I h) λc s1 ⟨H1,I1,q1⟩=>?_)
 cases c with
 |true=>exact⟨H1,I1,q1⟩
 |false=>exact hb wh ah s1 σ H1 Q I1 q1
theorem Y8 (ha:PT X a tA):PT X (.UnaryOp .Not a pos) (ak0 tA):=by
 intro ah s σ H Q I h;exact isTrue_not (ha ah s σ H (λc H1=>Q (!c) H1) I h)
noncomputable def afB (ta tb:TE):TE:=λσ H Q=>ta σ H λx H1=>∃c,x = .bl c/\if c=true then tb σ H1 Q else Q (.bl false) H1
noncomputable def ak1 (ta tb:TE):TE:=λσ H Q=>ta σ H λx H1=>∃c,x = .bl c/\if c=true then Q (.bl true) H1 else tb σ H1 Q
noncomputable def afC (ta:TE):TE:=λσ H Q=>ta σ H λx H1=>∃c,x = .bl c/\Q (.bl (!c)) H1
theorem Y9 {op}(h:PE X a t):PE X (.BoolOp op [a] pos) t:=λah s σ H Q I hw=>BoolOp_one (h ah s σ H Q I hw)
theorem Y_ (ha:PE X a ta)(hb:PE X (.BoolOp .And (b::dc) pos) tb):PE X (.BoolOp .And (a::b::dc) pos) (afB ta tb):=by
 intro ah s σ H Q I h;refine BoolOp_and (cQ (ha ah s σ H _ I h) λv s1 ⟨x,H1,I1,r1,q1⟩=>?_)
 obtain⟨c,rfl,q1⟩:=q1;cases r1;refine zaX ?_
 cases c with
 |true=>exact hb ah s1 σ H1 Q I1 q1
 |false=>exact⟨.bl false,H1,I1,rfl,q1⟩
theorem afD (ha:PE X a ta)(hb:PE X (.BoolOp .Or (b::dc) pos) tb):PE X (.BoolOp .Or (a::b::dc) pos) (ak1 ta tb):=by
 intro ah s σ H Q I h;refine BoolOp_or (cQ (ha ah s σ H _ I h) λv s1 ⟨x,H1,I1,r1,q1⟩=>?_)
 obtain⟨c,rfl,q1⟩:=q1;cases r1;refine zaX ?_
 cases c with
 |false=>exact hb ah s1 σ H1 Q I1 q1
 |true=>exact⟨.bl true,H1,I1,rfl,q1⟩
theorem Za (ha:PE X a ta):PE X (.UnaryOp .Not a pos) (afC ta):=by
 intro ah s σ H Q I h;refine UnaryOp_ (cQ (ha ah s σ H _ I h) λv s1 ⟨x,H1,I1,r1,q1⟩=>?_)
 obtain⟨c,rfl,q1⟩:=q1;cases r1;exact not_of (zaX ⟨.bl (!c),H1,I1,rfl,q1⟩)
noncomputable def tIf (t:TT)(ta tb:TE):TE:=λσ H Q=>t σ H λc H1=>if c=true then ta σ H1 Q else tb σ H1 Q
theorem KC (hc:PT X c tA)(ha:PE X a ta)(hb:PE X b tb):PE X (.IfExp c a b pos) (tIf tA ta tb):=by
 intro ah s σ H Q I h;refine wpAny_IfExp (cQ (hc ah s σ H _ I h) λd s1 ⟨H1,I1,q1⟩=>?_)
 cases d with
 |true=>exact ha ah s1 σ H1 Q I1 q1
 |false=>exact hb ah s1 σ H1 Q I1 q1
end
noncomputable def jk (K:PySem.W.Frag)(H:Hp)(a:Addr)(xs:List V):Prop:=
 Rd H a (.bM xs) \/
  ∃(o:Obj) (bu:Array Value) (n:Nat),K.lookup a=some o/\o.cls = .type "list" /\ o.dict=none/\o.data = .seq bu n/\bu.size<=sizeLine/\bL xs bu.toList
noncomputable def nI (K:PySem.W.Frag)(H:Hp)(a:Addr)(xs:List V):Prop:=
 Rd H a (.gE xs) \/
  ∃(o:Obj) (bu:Array Value) (n:Nat),K.lookup a=some o/\o.cls = .type "tuple" /\ o.data = .seq bu n/\bu.size<=sizeLine/\bL xs bu.toList
noncomputable def ak2:Value->Option V
 |.none=>some .br
 |.bool b=>some (.bl b)
 |.int i _=>some (.int i)
 |.str x _=>some (.str x)
 |.bytes b _=>some (.J_ b)
 |.float b _=>some (.YR b)
 |.ref a=>some (.ref a)
 |.type n=>some (.ty n)
 |_=>none
theorem bI.abs (r:bI x u):ak2 u=some x:=by
 cases x with
 |br=>cases r;rfl
 |bl _=>cases r;rfl
 |int _=>obtain⟨t,rfl⟩:=r;rfl
 |str _=>obtain⟨t,rfl⟩:=r;rfl
 |J_ _=>obtain⟨t,rfl⟩:=r;rfl
 |YR _=>obtain⟨t,rfl⟩:=r;rfl
 |ref _=>cases r;rfl
 |ty _=>cases r;rfl
theorem bI.inj (r:bI x u)(q:bI y u):x=y:=zav (r.abs.symm.trans q.abs)
theorem bL.inj:∀{xs ys:List V} {us:List Value},bL xs us->bL ys us->xs=ys
 |_,_,_,.nil,.nil=>rfl
 |_,_,_,.cons r t,.cons r' t'=>by rw[r.inj r',bL.inj t t']
theorem jk.of {K:PySem.W.Frag}(h:H a=some (.bM xs)):jk K H a xs:=.inl (.inl h)
theorem nI.of {K:PySem.W.Frag}(h:H a=some (.gE xs)):nI K H a xs:=.inl (.inl h)
theorem aL.list (I:aL X ah σ H s)(h:jk X.K H a xs):∃bu:List Value,bL xs bu/\PlainL s.heap a bu.toArray/\xs.length<=sizeLine:=by
 rcases h with h|⟨o,bu,n,hk,hc,hd,hs,hz,r⟩
 ·obtain⟨z,bu,n,r,e⟩:=h.ok I.b_
  exact⟨bu,r,⟨_,n,e,rfl,rfl,rfl⟩,z⟩
 ·refine⟨bu.toList,r,⟨o,n,I.jH a o hk,hc,hd,by simpa using hs⟩,?_⟩
  have e:=r.length;simp only[zcV] at e;omega
theorem aL.fQ (I:aL X ah σ H s)(h:nI X.K H a xs):∃bu:List Value,bL xs bu/\IsTup s.heap a bu.toArray/\xs.length<=sizeLine:=by
 rcases h with h|⟨o,bu,n,hk,hc,hs,hz,r⟩
 ·obtain⟨z,bu,r,p⟩:=h.ok I.b_
  exact⟨bu,r,p,z⟩
 ·refine⟨bu.toList,r,⟨o,I.jH a o hk,hc,n,by simpa using hs⟩,?_⟩
  have e:=r.length;simp only[zcV] at e;omega
theorem aL.AK (I:aL X ah σ H s)(h:jk X.K H a xs)(h':jk X.K H a ys):xs=ys:=by
 obtain⟨bu,r,⟨o,n,e,_,_,d⟩,_⟩:=I.list h
 obtain⟨its',r',⟨o',n',e',_,_,d'⟩,_⟩:=I.list h'
 rw[e] at e';cases e'
 rw[d] at d';injection d' with d1 _
 have:bu=its':=by simpa using congrArg Array.toList d1
 subst this;exact r.inj r'
theorem aL.wD (I:aL X ah σ H s)(h:nI X.K H a xs)(h':nI X.K H a ys):xs=ys:=by
 obtain⟨bu,r,⟨o,e,_,n,d⟩,_⟩:=I.fQ h
 obtain⟨its',r',⟨o',e',_,n',d'⟩,_⟩:=I.fQ h'
 rw[e] at e';cases e'
 rw[d] at d';injection d' with d1 _
 have:bu=its':=by simpa using congrArg Array.toList d1
 subst this;exact r.inj r'
noncomputable abbrev Cx.rm (X:Cx)(E:Value->Shared->Prop):Cx:={X with xe:=E}
noncomputable abbrev Cx.C_ (X:Cx):Cx:=X.rm λ_ _=>False
theorem Cx.Ok.rm {X:Cx}(ok:X.Ok)(E:Value->Shared->Prop):(X.rm E).Ok:=
 ⟨ok.sH,ok.kind,ok.sG,ok.U6,ok.above,ok.inj,ok.has,ok.YX,ok.hd,ok.frames,ok.stk,ok.exf,ok.bs,ok.Qj,ok.jf,ok.Dp,ok.j9,ok.Ku⟩
theorem Cx.Ok.gk {X:Cx}{E:Value->Shared->Prop}(ok:(X.rm E).Ok):X.Ok:=
 ⟨ok.sH,ok.kind,ok.sG,ok.U6,ok.above,ok.inj,ok.has,ok.YX,ok.hd,ok.frames,ok.stk,ok.exf,ok.bs,ok.Qj,ok.jf,ok.Dp,ok.j9,ok.Ku⟩
theorem aL.rm (I:aL X ah σ H s)(E:Value->Shared->Prop):aL (X.rm E) ah σ H s:=⟨I.ok.rm E,I.os,I.g5,I.base,I.Ay,I.cell,I.free,I.jG,I.AF,I.b_,I.len⟩
theorem aL.gk (I:aL (X.rm E) ah σ H s):aL X ah σ H s:=⟨I.ok.gk,I.os,I.g5,I.base,I.Ay,I.cell,I.free,I.jG,I.AF,I.b_,I.len⟩
theorem SP.gk (h:SP (X.rm E) ah D f s'):SP X ah D f s':=by
 cases f with
 |next=>obtain⟨d7,H',I,q⟩:=h;exact⟨d7,H',I.gk,q⟩
 |brk=>obtain⟨d7,H',I,q⟩:=h;exact⟨d7,H',I.gk,q⟩
 |cont=>obtain⟨d7,H',I,q⟩:=h;exact⟨d7,H',I.gk,q⟩
 |ret u=>obtain⟨v,d7,H',I,r,q⟩:=h;exact⟨v,d7,H',I.gk,r,q⟩
theorem wC.C_ {st:List Stmt}{t:TS}(h:wC X.C_ st t):wC X st t:=λah s σ H D I hw =>
 zaH (h ah s σ H D (I.rm _) hw) (λ_ _ q=>q.gk) λ_ _ z=>False.elim z
section
variable {X:Cx}{st:Stmt}{dc:List Stmt}{t u:TS}{e:Expr}{te:TE}{pos:Pos}
noncomputable def afE:TS:=λD σ H=>D.nx σ H
noncomputable def ak3 (t u:TS):TS:=λD σ H=>t {D with nx:=u D} σ H
theorem QA:wC X [] afE:=λ_ _ σ H _ I h=>zcr ⟨σ,H,I,h⟩
theorem sN (h1:PS X st t)(h2:wC X dc u):wC X (st::dc) (ak3 t u):=by
 intro ah s σ H D I h;refine zdx (cQ (h1 ah s σ H {D with nx:=u D} I h) λf s1 q=>?_)
 cases f with
 |next =>
  obtain⟨d7,H',I',q⟩:=q;exact h2 ah s1 d7 H' D I' q
 |ret v=>exact q
 |brk=>exact q
 |cont=>exact q
theorem FE (h1:PS X st t):wC X [st] t:=by
 intro ah s σ H D I h;refine zdx (cQ (h1 ah s σ H D I h) λf s1 q=>?_)
 cases f with
 |next=>exact zcr q
 |ret v=>exact q
 |brk=>exact q
 |cont=>exact q
theorem aL.quiet (I:aL X ah σ H s):interactive X.env=false:=by simp[interactive,I.ok.kind]
noncomputable def afF (te:TE):TS:=λD σ H=>te σ H λ_ H1=>D.nx σ H1
theorem FF (he:PE X e te)(hs:autoParam (swapsWith e none pos.line X.env=pure false) zp_0):PS X (.Expr e pos) (afF te):=by
 intro ah s σ H D I h;exact wpAny_Expr_any (cQ (he ah s σ H _ I h) λv s1 ⟨x,H1,I1,r1,q1⟩=>⟨σ,H1,I1,q1⟩) I.quiet hs
noncomputable def ak4 (te:TE):TS:=λD σ H=>te σ H D.rt
theorem Zb (he:PE X e te):PS X (.Return (some e) pos) (ak4 te):=by
 intro ah s σ H D I h;exact wpAny_Return_some (cQ (he ah s σ H _ I h) λv s1 ⟨x,H1,I1,r1,q1⟩=>⟨x,σ,H1,I1,r1,q1⟩)
noncomputable def ak5 (c:TT)(t u:TS):TS:=λD σ H=>c σ H λb H1=>if b=true then t D σ H1 else u D σ H1
theorem afG (hc:PT X c tc)(ha:wC X a t)(hb:wC X b u):PS X (.If c a b pos) (ak5 tc t u):=by
 intro ah s σ H D I h;refine wpAny_If (cQ (hc ah s σ H _ I h) λd s1 ⟨H1,I1,q1⟩=>?_)
 cases d with
 |true=>exact ha ah s1 σ H1 D I1 q1
 |false=>exact hb ah s1 σ H1 D I1 q1
noncomputable def Zc:TS:=λ_ _ _=>False
theorem KD:PS X st Zc:=λ_ _ _ _ _ _ h=>h.elim
end
noncomputable abbrev TG:=V->St->Hp->(St->Hp->Prop)->Prop
noncomputable abbrev TGs:=List V->St->Hp->(St->Hp->Prop)->Prop
noncomputable def PG (X:Cx)(target:Expr)(t:TG):Prop:=
 ∀(ah:List (Addr×Obj)) (s:Shared) (σ:St) (H:Hp) (v:V) (u:Value) (Q:St->Hp->Prop),aL X ah σ H s->bI v u->t v σ H Q ->
  wpAny (model X.prog X.w) X.A (assign target X.env u) (λ_ s'=>∃d7 H',aL X ah d7 H' s'/\Q d7 H') X.xe s
noncomputable def QB (X:Cx)(ts:List Expr)(t:TGs):Prop:=
 ∀(ah:List (Addr×Obj)) (s:Shared) (σ:St) (H:Hp) (vs:List V) (us:List Value) (Q:St->Hp->Prop),aL X ah σ H s->bL vs us->t vs σ H Q ->
  wpAny (model X.prog X.w) X.A (assignInOrder ((assignEach ts X.env).map (·.2)) us) (λ_ s'=>∃d7 H',aL X ah d7 H' s'/\Q d7 H') X.xe s
noncomputable abbrev afH:=V->V->V->Hp->(Hp->Prop)->Prop
noncomputable def Zd (X:Cx)(t:afH):Prop:=
 ∀(ah:List (Addr×Obj)) (s:Shared) (σ:St) (H:Hp) (o i v:V) (ov iv u:Value) (Q:Hp->Prop),aL X ah σ H s->bI o ov->bI i iv->bI v u->t o i v H Q ->
  wpAny (model X.prog X.w) X.A (setItem ov iv u) (λ_ s'=>∃H',aL X ah σ H' s'/\Q H') X.xe s
noncomputable def FG (i:Nat):TG:=λv σ H Q=>Q (σ.set i (some v)) H
theorem QC (hN:X.N.Nodup)(hi:X.N[i]? = some x)(hx:U7 X.env.scope x)(hf:autoParam (X.fn x=true\/X.env.scope.names.lookup x=some .local) zp_4):PG X (.Name x pos) (FG i):=by
 intro ah s σ H v u Q I r h;exact wpAny_assign_Name (ou I hN hi hx r (λs' I'=>⟨_,H,I',h⟩) hf)
noncomputable def ak6:TGs:=λvs σ H Q=>vs=[]/\Q σ H
noncomputable def afI (t:TG)(u:TGs):TGs:=λvs σ H Q=>∃v r,vs=v::r/\t v σ H λd7 H'=>u r d7 H' Q
theorem QD:QB X [] ak6:=by
 intro ah s σ H vs us Q I r h;obtain⟨e,h⟩:=h;subst e;cases r;exact assignInOrder_nil ⟨σ,H,I,h⟩
theorem KG (h1:PG X e t)(h2:QB X es u)
  (hs:autoParam ((assignEach (e::es) X.env).map (·.2)=assign e X.env::(assignEach es X.env).map (·.2)) zp_0):QB X (e::es) (afI t u):=by
 intro ah s σ H vs us Q I r h;obtain⟨v,vr,e1,h⟩:=h;subst e1;cases r with
 |cons r rr =>
  rw[hs];refine assignInOrder_cons (cQ (h1 ah s σ H _ _ _ I r h) λ_ s1 ⟨σ1,H1,I1,q1⟩=>?_)
  exact h2 ah s1 σ1 H1 _ _ Q I1 rr q1
noncomputable def ak7 (K:PySem.W.Frag)(n:Nat)(t:TGs):TG:=λv σ H Q=>∃a xs,v = .ref a/\nI K H a xs/\xs.length=n/\t xs σ H Q
theorem Ze (hc:X.fX=true)(h:QB X es t)
  (hn:autoParam ((assignEach es X.env).length=n) zp_0) (pQ:autoParam ((assignEach es X.env).findIdx? (·.1)=none) zp_0):PG X (.Tuple es k pos) (ak7 X.K n t):=by
 intro ah s σ H v u Q I r hw;obtain⟨a,xs,e1,hq,hl,hw⟩:=hw;subst e1;cases r;obtain⟨bu,rv,ht,hz⟩:=I.fQ hq;refine assign_Tuple_tuple (I.ok.hd hc) ht (by simp[hn,<-hl,rv.length]) pQ λh' hx=>?_
 have I1:aL X ah σ H {s with heap:=h' }:=I.gZ (t':=s.toks) λb o e=>hx b o (zar (zam e)) e
 exact h ah _ σ H xs _ Q I1 (by simpa using rv) hw
noncomputable def ak8 (to ti:TE)(t:afH):TG:=λv σ H Q=>to σ H λo H1=>ti σ H1 λi H2=>t o i v H2 λH3=>Q σ H3
theorem Zf (ho:PE X o to)(hi:PE X i ti)(hs:Zd X t)
  (ha:autoParam (∀v,assign (.Subscript o i pos) X.env v=(do
   let ov <-holding [v] (eval o X.env)
   let iv <-holding [v,ov] (eval i X.env)
   standAt pos
   holding [v,ov,iv] (setItem ov iv v)
   release [v,ov,iv] [])) zp_3):PG X (.Subscript o i pos) (ak8 to ti t):=by
 intro ah s σ H v u Q I r h;rw[ha];refine zaa (zbu (cQ (ho ah s σ H _ I h) λov s1 ⟨x,H1,I1,r1,q1⟩=>?_))
 refine zaa (zbu (cQ (hi ah s1 σ H1 _ I1 q1) λiv s2 ⟨y,H2,I2,r2,q2⟩=>?_))
 refine zaa (zcI (zaa (zbu (cQ (hs ah s2 σ H2 x y v ov iv u _ I2 r1 r2 r q2) λ_ s3 ⟨H3,I3,q3⟩=>?_))))
 exact wpAny_release ⟨σ,H3,I3,q3⟩
noncomputable def QE (te:TE)(g:TG):TS:=λD σ H=>te σ H λx H1=>g x σ H1 D.nx
theorem Zg (he:PE X e te)(hg:PG X tg g)(hs:autoParam (swapsWithSole [tg] e pos.line X.env=pure false) zp_0)(hw:autoParam (swappedStores [tg] e X.env=pure none) zp_0)
  (h1:autoParam ((assignEach [tg] X.env).map (·.2)=[assign tg X.env]) zp_0):PS X (.Assign [tg] e pos) (QE te g):=by
 intro ah s σ H D I h;refine wpAny_Assign_stores (cQ (he ah s σ H _ I h) λv s1 ⟨x,H1,I1,r1,q1⟩=>?_) hs hw
 rw[h1];exact cQ (hg ah s1 σ H1 x v _ I1 r1 q1) λ_ s2 q=>q
theorem Zh (hN:X.N.Nodup)(hi:X.N[i]? = some x)(hx:U7 X.env.scope x)(he:PE X e te)(hs:autoParam (swapsWith e (some (.Name x jI)) pos.line X.env=pure false) zp_0)(hf:autoParam (X.fn x=true\/X.env.scope.names.lookup x=some .local) zp_4):
  PS X (.Assign [.Name x jI] e pos) (QE te (FG i)):=by
 intro ah s σ H D I h;refine wpAny_Assign_Name (cQ (he ah s σ H _ I h) λv s1 ⟨y,H1,I1,r1,q1⟩=>?_) hs
 exact ou I1 hN hi hx r1 (λs2 I2=>⟨_,H1,I2,q1⟩) hf
structure It where
 go:Nat->Hp->Prop
 yld:Nat->Hp->V->Hp->Prop
 stop:Nat->Hp->Prop
noncomputable def pV (X:Cx)(ah:List (Addr×Obj))(H:Hp)(b:Addr):Prop:=
 H b=none/\b≠X.env.locals/\b∉X.fs/\(b∈X.ex\/X.s₀.heap.objs.size<=b)/\(∀x c,X.env.cells.lookup x=some c->c≠b)/\∀p∈X.pn++ah,p.1≠b
theorem aL.Ds (I:aL X ah σ H s)(hb:s.heap.objs.size<=b)(hn:H' b=none):pV X ah H' b:=by
 refine⟨hn,zbQ (zak I.lt hb),I.akU hb,.inr (zai I.sz hb),λx c e z=>?_,λp hp z=>?_⟩
 ·obtain⟨v,q⟩:=I.cell x c e
  exact absurd (zak q.lt (by rw[z];exact hb)) (zaJ _)
 ·exact absurd (zak (zam (I.AF p hp).1) (by rw[z];exact hb)) (zaJ _)
structure Ia (P:Program) (w:World) (K:PySem.W.Frag) (tg:Expr) (J:It) (fp:List Addr) (it:Addr) (tn:Nat->Heap->Prop):Prop where
 mem:it∈fp
 lW:∀i h,tn i h->∀b∈fp,∃o,h.get? b=some o/\∀v,o.data ≠ .cell v
 keep:∀i h h',tn i h->(∀b∈fp,∀o,h.get? b=some o->h'.get? b=some o)->tn i h'
 item:∀(X:Cx),X.prog=P->X.w=w->X.K=K->X.fX=true->∀(i:Nat) (ah:List (Addr×Obj)) (s:Shared) (σ:St) (H:Hp) (E:Value->Shared->Prop),aL X ah σ H s->(∀b∈fp,pV X ah H b)->tn i s.heap->J.go i H ->
  wpAny (model P w) X.A (pyNext (.ref it)) (λr s1=>∃u,r=some u /\
   wpAny (model P w) X.A (letOwnedTupleGo tg (.ref it) u) (λ_ s2=>∃x H',aL X ah σ H' s2/\bI x u/\J.yld i H x H'/\tn (i+1) s2.heap/\∀b∈fp,H' b=none) E s1) E s
 done:∀(X:Cx),X.prog=P->X.w=w->X.K=K->X.fX=true->∀(i:Nat) (ah:List (Addr×Obj)) (s:Shared) (σ:St) (H:Hp) (E:Value->Shared->Prop),aL X ah σ H s->(∀b∈fp,pV X ah H b)->tn i s.heap->J.stop i H ->
  wpAny (model P w) X.A (pyNext (.ref it)) (λr s1=>r=none/\aL X ah σ H s1) E s
 self:∀(A:Around) (i:Nat) (s:Shared) (Q:Value->Shared->Prop) (E:Value->Shared->Prop),tn i s.heap->Q (.ref it) s->wpAny (model P w) A (pyIter (.ref it)) Q E s
noncomputable abbrev TI:=St->Hp->(It->Hp->Prop)->Prop
noncomputable def PIE (X:Cx)(ah:List (Addr×Obj))(σ:St)(tg:Expr)(R:It->Hp->Prop)(itv:Value)(s2:Shared):Prop:=
 ∃(it:Addr) (fp:List Addr) (tn:Nat->Heap->Prop) (J:It) (H':Hp),itv = .ref it/\aL X ah σ H' s2/\Ia X.prog X.w X.K tg J fp it tn/\tn 0 s2.heap/\(∀b∈fp,pV X ah H' b)/\R J H'
noncomputable def PI (X:Cx)(tg d9:Expr)(wi:TI):Prop:=
 ∀(ah:List (Addr×Obj)) (s:Shared) (σ:St) (H:Hp) (R:It->Hp->Prop),aL X ah σ H s->wi σ H R ->
  wpAny (model X.prog X.w) X.A (eval d9 X.env) (λv s1=>wpAny (model X.prog X.w) X.A (pyIter v) (PIE X ah σ tg R) X.xe s1) X.xe s
theorem FH (ho:s.heap.get? it=some o)(hc:o.cls = .type n)(hd:o.data = .fields vs)
    (hn:["enumerate","zip","dict_itemiterator","dict_reverseitemiterator","odict_iterator","itertools.zip_longest","itertools.pairwise"].contains n=false) (hQ:Q () s):wpAny M A (letOwnedTupleGo tg (.ref it) u) Q E s:=by
  unfold letOwnedTupleGo;cases tg<;>first
    |exact zaf hQ
    | (cases u<;>first
        |exact zaf hQ
        | (refine zaa (wpAny_load ho ?_)
           rw[hc,hd];show wpAny M A (if (["enumerate","zip","dict_itemiterator","dict_reverseitemiterator","odict_iterator","itertools.zip_longest","itertools.pairwise"].contains n && vs[0]? == some (rawInt _))=true then _ else _) Q E s
           rw[if_neg (by intro h;rw[hn,zcZ] at h;cases h)]
           exact zaf hQ))
noncomputable def Itl (K:PySem.W.Frag)(a:Addr):It:=
 ⟨λi H=>∃xs x,jk K H a xs/\xs[i]? = some x,λi H x H'=>H'=H/\∀xs,jk K H a xs->xs[i]? = some x,λi H=>∃xs,jk K H a xs/\xs.length<=i⟩
noncomputable def Itt (K:PySem.W.Frag)(a:Addr):It:=
 ⟨λi H=>∃xs x,nI K H a xs/\xs[i]? = some x,λi H x H'=>H'=H/\∀xs,nI K H a xs->xs[i]? = some x,λi H=>∃xs,nI K H a xs/\xs.length<=i⟩
noncomputable def Itr (lo:Int)(n:Nat):It:=⟨λi _=>i<n,λi H x H'=>H'=H/\x = .int (lo+i),λi _=>n<=i⟩
theorem Ib {P:Program}{w:World}{K:PySem.W.Frag}{tg:Expr}(a it:Addr):Ia P w K tg (Itl K a) [it] it (λi h=>h.IsListIter it a i) where
 mem:=by simp
 lW:=λi h st b hb=>by
  have e:b=it:=by simpa using hb
  subst e;obtain⟨o,e,c,d⟩:=st;exact⟨o,e,λv z=>by rw[d] at z;cases z⟩
 keep:=λi h h' st k=>st.at λo e=>k it (by simp) o e
 item:=by
  intro X hP hw hK hc i ah s σ H E I hf st hg;subst hP hw hK;obtain⟨xs,x,hq,hx⟩:=hg;obtain⟨bu,rv,p,hz⟩:=I.list hq;obtain⟨u,hu,ru⟩:=rv.get hx;obtain⟨f0,f1,f2,f3,f4,f5⟩:=hf it (by simp)
  refine wpAny_pyNext_list_item st p.isList (x:=u) (by simpa using hu) λh' AL sb=>?_
  have I1:aL X ah σ H {s with heap:=h' }:=I.j_ (t':=s.toks) (λb o hb e=>(sb.2 b hb).trans e) f0 f1 f3 f4 f5
  obtain⟨o,e,c,d⟩:=id AL;exact⟨u,rfl,FH (s:={s with heap:=h' }) e c d (by decide) ⟨x,H,I1,ru,⟨rfl,λys hy=>by rw[I.AK hy hq];exact hx⟩,AL,λb hb=>(hf b hb).1⟩⟩
 done:=by
  intro X hP hw hK hc i ah s σ H E I hf st hg;subst hP hw hK;obtain⟨xs,hq,hx⟩:=hg;obtain⟨bu,rv,p,hz⟩:=I.list hq;obtain⟨f0,f1,f2,f3,f4,f5⟩:=hf it (by simp)
  have hl:=rv.length;exact wpAny_pyNext_list_end (I.ok.hd hc) st p.isList (by simp;omega) λh' eb=>⟨rfl,I.j_ (t':=s.toks) (λb o hb e=>eb b o hb e) f0 f1 f3 f4 f5⟩
 self:=λ_ _ _ _ _ st h=>wpAny_pyIter_listiter st h
theorem Dt {P:Program}{w:World}{K:PySem.W.Frag}{tg:Expr}(a it:Addr):Ia P w K tg (Itt K a) [it] it (λi h=>h.IsTupleIter it a i) where
 mem:=by simp
 lW:=λi h st b hb=>by
  have e:b=it:=by simpa using hb
  subst e;obtain⟨o,e,c,d⟩:=st;exact⟨o,e,λv z=>by rw[d] at z;cases z⟩
 keep:=λi h h' st k=>st.at λo e=>k it (by simp) o e
 item:=by
  intro X hP hw hK hc i ah s σ H E I hf st hg;subst hP hw hK;obtain⟨xs,x,hq,hx⟩:=hg;obtain⟨bu,rv,p,hz⟩:=I.fQ hq;obtain⟨u,hu,ru⟩:=rv.get hx;obtain⟨f0,f1,f2,f3,f4,f5⟩:=hf it (by simp)
  refine wpAny_pyNext_tuple_item st (show s.heap.IsTuple a bu.toArray from p) (x:=u) (by simpa using hu) λh' AL sb=>?_
  have I1:aL X ah σ H {s with heap:=h' }:=I.j_ (t':=s.toks) (λb o hb e=>(sb.2 b hb).trans e) f0 f1 f3 f4 f5
  obtain⟨o,e,c,d⟩:=id AL;exact⟨u,rfl,FH (s:={s with heap:=h' }) e c d (by decide) ⟨x,H,I1,ru,⟨rfl,λys hy=>by rw[I.wD hy hq];exact hx⟩,AL,λb hb=>(hf b hb).1⟩⟩
 done:=by
  intro X hP hw hK hc i ah s σ H E I hf st hg;subst hP hw hK;obtain⟨xs,hq,hx⟩:=hg;obtain⟨bu,rv,p,hz⟩:=I.fQ hq;obtain⟨f0,f1,f2,f3,f4,f5⟩:=hf it (by simp)
  have hl:=rv.length;exact wpAny_pyNext_tuple_end (I.ok.hd hc) st (show s.heap.IsTuple a bu.toArray from p) (by simp;omega) λh' eb=>⟨rfl,I.j_ (t':=s.toks) (λb o hb e=>eb b o hb e) f0 f1 f3 f4 f5⟩
 self:=λ_ _ _ _ _ st h=>wpAny_pyIter_tupleiter st h
theorem Du {P:Program}{w:World}{K:PySem.W.Frag}{tg:Expr}(it:Addr)(lo:Int)(n:Nat):Ia P w K tg (Itr lo n) [it] it (λi h=>IsRangeIter h it (lo+(i:Nat) * 1) ((n:Int) - (i:Nat)) 1) where
 mem:=by simp
 lW:=λi h st b hb=>by
  have e:b=it:=by simpa using hb
  subst e;exact⟨_,st,λv z=>by
   have z':Data.fields _=Data.cell v:=z
   cases z'⟩
 keep:=λi h h' st k=>k it (by simp) _ st
 item:=by
  intro X hP hw hK hc i ah s σ H E I hf st hg;subst hP hw hK;obtain⟨f0,f1,f2,f3,f4,f5⟩:=hf it (by simp)
  have W:=Walks.range (prog:=X.prog) (w:=X.w) (I.ok.hd hc) it lo 1 n
  refine W.item i s _ _ hg st λv h' tk hv AL kk=>?_
  obtain⟨t,rfl⟩:=hv;have I1:aL X ah σ H {s with heap:=h',toks:=tk}:=I.j_ (λb o hb e=>kk b o (by simpa using hb) e) f0 f1 f3 f4 f5
  refine⟨_,rfl,FH (s:={s with heap:=h',toks:=tk}) (n:= "range_iterator") AL rfl rfl (by decide) ⟨.int (lo+i),H,I1,⟨t,?_⟩,⟨rfl,rfl⟩,AL,λb hb=>(hf b hb).1⟩⟩
  rw[Int.mul_one]
 done:=by
  intro X hP hw hK hc i ah s σ H E I hf st hg;subst hP hw hK;obtain⟨f0,f1,f2,f3,f4,f5⟩:=hf it (by simp)
  exact wpAny_pyNext_range_end (I.ok.hd hc) st (by have:n<=i:=hg;omega) λh' eb=>⟨rfl,I.j_ (t':=s.toks) (λb o hb e=>eb b o hb e) f0 f1 f3 f4 f5⟩
 self:=λ_ _ _ _ _ st h=>wpAny_pyIter_rangeiter st h
noncomputable def afJ (K:PySem.W.Frag)(tl:TE):TI:=λσ H R=>tl σ H λx H1=>∃a,x = .ref a/\(∃xs,jk K H1 a xs)/\R (Itl K a) H1
noncomputable def alc (K:PySem.W.Frag)(tl:TE):TI:=λσ H R=>tl σ H λx H1=>∃a,x = .ref a/\(∃xs,nI K H1 a xs)/\R (Itt K a) H1
theorem QF {l:Expr}{tl:TE}(hl:PE X l tl):PI X tg l (afJ X.K tl):=by
 intro ah s σ H R I h;refine cQ (hl ah s σ H _ I h) λv s1 ⟨x,H1,I1,r1,q1⟩=>?_
 obtain⟨a,e,⟨xs,hq⟩,q⟩:=q1
 subst e;cases r1;obtain⟨bu,rv,p,hz⟩:=I1.list hq;refine zdp p.isList ?_
 refine⟨s1.heap.objs.size,[s1.heap.objs.size],_,_,H1,rfl,I1.gZ (t':=s1.toks) λb o e=>zac _ e,Ib a _,⟨_,zap _ rfl,rfl,rfl⟩,λb hb=>?_,q⟩
 have e:b=s1.heap.objs.size:=by simpa using hb
 subst e;exact I1.Ds (zah _) (I1.b_.fresh (zah _))
theorem Zi {l:Expr}{tl:TE}(hl:PE X l tl):PI X tg l (alc X.K tl):=by
 intro ah s σ H R I h;refine cQ (hl ah s σ H _ I h) λv s1 ⟨x,H1,I1,r1,q1⟩=>?_
 obtain⟨a,e,⟨xs,hq⟩,q⟩:=q1
 subst e;cases r1;obtain⟨bu,rv,p,hz⟩:=I1.fQ hq;refine wpAny_pyIter_tuple (show s1.heap.IsTuple a bu.toArray from p) ?_
 refine⟨s1.heap.objs.size,[s1.heap.objs.size],_,_,H1,rfl,I1.gZ (t':=s1.toks) λb o e=>zac _ e,Dt a _,⟨_,zap _ rfl,rfl,rfl⟩,λb hb=>?_,q⟩
 have e:b=s1.heap.objs.size:=by simpa using hb
 subst e;exact I1.Ds (zah _) (I1.b_.fresh (zah _))
theorem KH {ah:List (Addr×Obj)}{σ:St}{H:Hp}{s:Shared}{R:It->Hp->Prop}{E:Value->Shared->Prop}{lo hi:Int}{t u v:Tok}{tk:Nat}(I:aL X ah σ H s)(h1: -(2 ^ 62)<=lo)(h2:lo<2 ^ 62)(h3: -(2 ^ 62)<=hi)(h4:hi<2 ^ 62)
  (q:R (Itr lo (hi - lo).toNat) H):wpAny (model X.prog X.w) X.A (pyIter (.ref s.heap.objs.size)) (PIE X ah σ tg R) E { s with heap:=s.heap.push { cls:=.type "range",data:=.fields #[.int lo t,.int hi u,.int 1 v]},toks:=tk}:=by
 refine wpAny_pyIter_range (IsRange.new ..) (small_one h1 h2 h3 h4) ?_
 have I1:aL X ah σ H { s with heap:=s.heap.push { cls:=.type "range",data:=.fields #[.int lo t,.int hi u,.int 1 v]},toks:=tk}:=I.gZ λb o e=>zac _ e
 refine⟨(s.heap.push { cls:=.type "range",data:=.fields #[.int lo t,.int hi u,.int 1 v]}).objs.size,[(s.heap.push { cls:=.type "range",data:=.fields #[.int lo t,.int hi u,.int 1 v]}).objs.size],_,_,H,rfl,
  I1.gZ (t':=tk) λb o e=>zac _ e,Du _ lo (hi - lo).toNat,?_,λb hb=>?_,q⟩
 ·have e1:lo+((0:Nat):Int) * 1=lo:=by simp
  have e2:(((hi - lo).toNat:Nat):Int) - ((0:Nat):Int)=Builtin.Range.rangeSize lo hi 1:=by rw[rangeSize_one];split<;>omega
  show IsRangeIter _ _ (lo+((0:Nat):Int) * 1) ((((hi - lo).toNat:Nat):Int) - ((0:Nat):Int)) 1
  rw[e1,e2];exact zap _ rfl
 ·have e:b=(s.heap.push { cls:=.type "range",data:=.fields #[.int lo t,.int hi u,.int 1 v]}).objs.size:=by simpa using hb
  subst e;exact I1.Ds (zah _) (I1.b_.fresh (zah _))
noncomputable def afK (ta:TA):TI:=λσ H R=>ta σ H λvs H1=>∃j:Int,vs=[.int j] /\ -(2 ^ 62)<=j/\j<2 ^ 62/\R (Itr 0 j.toNat) H1
theorem Ic {a:Expr}{ta:TA}{p pos:Pos}(hg:Gl X "range")(hm:X.mg "range"=none)(ha:PA X [a] ta)(hs:autoParam (starEach [a] X.env=[(false,eval a X.env)]) zp_0):PI X tg (.Call (.Name "range" p) [a] [] pos) (afK ta):=by
 intro ah s σ H R I h;refine Call_ (sM I hg hm boot_range (zck (cQ (ha pos ah s σ H _ I h) λus s1 ⟨vs,H1,I1,r1,q1⟩=>?_) hs rfl))
 obtain⟨j,e,q1,q2,q⟩:=q1;subst e;cases r1 with
 |cons r rr =>
  cases rr;obtain⟨t,rfl⟩:=r;exact call_range_1 (KH I1 (by omega) (by omega) q1 q2 (by simpa using q))
noncomputable def ald (wi:TI)(g:TG)(tb:TS):TS:=λD σ H=>wi σ H λJ H1=>∃W:Nat->Nat->St->Hp->Prop,(∃m,W 0 m σ H1)/\∀i m σ H,W i m σ H ->
 (J.stop i H/\D.nx σ H)\/(J.go i H/\∃N:St->Hp->Prop,(∀d7 H',N d7 H'->∃m',m' < m/\W (i+1) m' d7 H')/\∀x H',J.yld i H x H'->g x σ H' λAz H2=>tb {D with nx:=N,ct:=N,bk:=D.nx} Az H2)
noncomputable def sO (fp:List Addr)(h:Heap):List (Addr×Obj):=fp.filterMap λb=>(h.get? b).map λo=>(b,o)
theorem kg (hb:b∈fp)(e:h.get? b=some o):(b,o)∈sO fp h:=List.mem_filterMap.mpr ⟨b,hb,by rw[e];rfl⟩
theorem Ie (hp:p∈sO fp h):p.1∈fp/\h.get? p.1=some p.2:=by
 obtain⟨b,hb,e⟩:=List.mem_filterMap.mp hp;cases q:h.get? b with
 |none=>rw[q] at e;cases e
 |some o =>
  rw[q] at e;have e':(b,o)=p:=zav e
  subst e';exact⟨hb,q⟩
theorem aL.KI (I:aL X ah σ H s)(hf:∀b∈fp,pV X ah H b)(ho:∀b∈fp,∃o,s.heap.get? b=some o/\∀v,o.data ≠ .cell v):aL X (ah++sO fp s.heap) σ H s:=
 I.FD λp hp=>(zbL.mp hp).elim (λz=>I.AF p (zaI _ z)) λz=>by
  obtain⟨hb,e⟩:=Ie z;obtain⟨f0,f1,f2,_⟩:=hf p.1 hb;obtain⟨o,e',d⟩:=ho p.1 hb;rw[e] at e';cases e'
  exact⟨e,f0,f1,f2,d⟩
theorem aL.ow (I:aL X (ah++pl) σ H s):aL X ah σ H s:=I.FD λp hp=>I.AF p (zaI _ (zcl _ hp))
theorem Zj (hp:PassesOwn (model X.prog X.w) X.A X.env X.xe)(hc:X.fX=true)(hi:PI X tg d9 wi)(hg:PG X tg g)(hb:wC X body tb)
  (hs:autoParam (∀x,foldedSetIterable d9 X.env x=pure x) zp_3):PS X (.For tg d9 body [] pos) (ald wi g tb):=by
 intro ah s σ H D I h;refine wpAny_For (cQ (hi ah s σ H _ I h) λv s1 h1=>cQ h1 λitv s2 h2=>?_) hs
 obtain⟨it,fp,tn,J,H2,e,I2,T,st2,f2,W,⟨m0,w0⟩,KJ⟩:=h2
 subst e;-- akQ aoi true of Dn Zk QG akd Dn Qu
 have Dv:∀{H':Hp},(∀b∈fp,H' b=none)->∀b∈fp,pV X ah H' b:=λhn b hb=>⟨hn b hb,(f2 b hb).2⟩
 refine codeAny_forLoop_any (λn s'=>∃i d7 H',aL X ah d7 H' s'/\tn i s'.heap/\(∀b∈fp,H' b=none)/\W i n d7 H') ?_ m0 ⟨0,σ,H2,I2,st2,λb hb=>(f2 b hb).1,w0⟩
 rintro n s3 ⟨i,σ3,H3,I3,st3,fr3,w3⟩
 rcases KJ i n σ3 H3 w3 with⟨stop,qn⟩|⟨go,N,hN,AG⟩
 ·refine zcs hp (cQ (T.done X rfl rfl rfl hc i ah s3 σ3 H3 X.xe I3 (Dv fr3) st3 stop) λr s4 ⟨hr,I4⟩=>?_)
  subst hr;exact zcr ⟨σ3,H3,I4,qn⟩
 ·refine zcs hp (cQ (T.item X rfl rfl rfl hc i ah s3 σ3 H3 X.xe I3 (Dv fr3) st3 go) λr s4 ⟨u,hr,h4⟩=>?_)
  subst hr;refine zcs hp (cQ h4 λ_ s5 ⟨x,H5,I5,r5,y5,st5,fr5⟩=>?_)
  have I5':=I5.KI (Dv fr5) (T.lW _ _ st5)
  refine zcs hp (cQ (hg _ s5 σ3 H5 x u _ I5' r5 (AG x H5 y5)) λ_ s6 ⟨KL,H6,I6,q6⟩=>?_)
  refine zcs hp (cQ (hb _ s6 KL H6 _ I6 q6) λf s7 q7=>?_)
  have again:∀{KN:St} {H7:Hp},aL X (ah++sO fp s5.heap) KN H7 s7->N KN H7->∃m,m<n/\∃i d7 H',aL X ah d7 H' s7/\tn i s7.heap/\(∀b∈fp,H' b=none)/\W i m d7 H':=λ{KN H7} I7 n7=>by
   obtain⟨m',hm,w7⟩:=hN KN H7 n7;refine⟨m',hm,i+1,KN,H7,I7.ow,T.keep _ _ _ st5 λb hb o e=>(I7.AF (b,o) (zaI _ (zaI _ (kg hb e)))).1,λb hb=>?_,w7⟩
   obtain⟨o,e,d⟩:=T.lW _ _ st5 b hb;exact (I7.AF (b,o) (zaI _ (zaI _ (kg hb e)))).2.1
  cases f with
  |next=>obtain⟨KN,H7,I7,n7⟩:=q7;exact again I7 n7
  |cont=>obtain⟨KN,H7,I7,n7⟩:=q7;exact again I7 n7
  |brk=>obtain⟨KN,H7,I7,q7⟩:=q7;exact⟨KN,H7,I7.ow,q7⟩
  |ret v=>obtain⟨x7,KN,H7,I7,r7,q7⟩:=q7;exact⟨x7,KN,H7,I7.ow,r7,q7⟩
noncomputable abbrev R2:=V->V->Hp->VK->Prop
noncomputable def ki (X:Cx)(f:Value->Value->Sem Value)(r:R2):Prop:=
 ∀(ah:List (Addr×Obj)) (s:Shared) (σ:St) (H:Hp) (x y:V) (v u:Value) (Q:VK),aL X ah σ H s->bI x v->bI y u->r x y H Q ->
  wpAny (model X.prog X.w) X.A (f v u) (EP X ah σ Q) X.xe s
noncomputable def UnR (X:Cx)(f:Value->Sem Value)(r:V->Hp->VK->Prop):Prop:=
 ∀(ah:List (Addr×Obj)) (s:Shared) (σ:St) (H:Hp) (x:V) (v:Value) (Q:VK),aL X ah σ H s->bI x v->r x H Q ->
  wpAny (model X.prog X.w) X.A (f v) (EP X ah σ Q) X.xe s
noncomputable def jJ (X:Cx)(f:Value)(r:List V->Hp->VK->Prop):Prop:=
 ∀(ah:List (Addr×Obj)) (s:Shared) (σ:St) (H:Hp) (xs:List V) (us:List Value) (Q:VK),aL X ah σ H s->bL xs us->r xs H Q ->
  wpAny (model X.prog X.w) X.A (call f us) (EP X ah σ Q) X.xe s
noncomputable def tOp (r:R2)(ta tb:TE):TE:=λσ H Q=>ta σ H λx H1=>tb σ H1 λy H2=>r x y H2 Q
noncomputable def tUn (r:V->Hp->VK->Prop)(ta:TE):TE:=λσ H Q=>ta σ H λx H1=>r x H1 Q
noncomputable def rI (C:Int->Int->Prop)(g:Int->Int->V):R2:=λx y H Q=>∃i j,x = .int i/\y = .int j/\C i j/\Q (g i j) H
noncomputable def QH (g:Int->Int->V):R2:=λx y H Q=>∃i j,x = .int i/\y = .int j/\Q (g i j) H
noncomputable def rU (g:Int->V):V->Hp->VK->Prop:=λx H Q=>∃i,x = .int i/\Q (g i) H
theorem Zl (ha:PE X a ta)(hb:PE X b tb){ah:List (Addr×Obj)}{s:Shared}{σ:St}{H:Hp}{R:V->V->Hp->Prop}(I:aL X ah σ H s)
  (h:ta σ H λx H1=>tb σ H1 λy H2=>R x y H2) {Q:Value->Shared->Prop} {f:Value->Value->Sem Value}
  (hf:∀v u s2 x y H2,aL X ah σ H2 s2->bI x v->bI y u->R x y H2->wpAny (model X.prog X.w) X.A (f v u) Q X.xe s2):
  wpAny (model X.prog X.w) X.A (eval a X.env) (λv cM=>wpAny (model X.prog X.w) X.A (eval b X.env) (λu lV=>wpAny (model X.prog X.w) X.A (f v u) Q X.xe lV) X.xe cM) X.xe s:=by
 refine cQ (ha ah s σ H _ I h) λv s1 ⟨x,H1,I1,r1,q1⟩=>?_
 refine cQ (hb ah s1 σ H1 _ I1 q1) λu s2 ⟨y,H2,I2,r2,q2⟩=>?_
 exact hf v u s2 x y H2 I2 r1 r2 q2
theorem afO {op:Operator}{r:R2}(ho:ki X (binaryOp op) r)(ha:PE X a ta)(hb:PE X b tb):PE X (.BinOp a op b pos) (tOp r ta tb):=by
 intro ah s σ H Q I h;exact wpAny_BinOp (Zl ha hb I h λv u s2 x y H2 I2 rx ry q=>ho ah s2 σ H2 x y v u Q I2 rx ry q)
theorem afP (ho:UnR X (unaryOp op) r)(ha:PE X a ta):PE X (.UnaryOp op a pos) (tUn r ta):=by
 intro ah s σ H Q I h;exact UnaryOp_ (cQ (ha ah s σ H _ I h) λv s1 ⟨x,H1,I1,r1,q1⟩=>ho ah s1 σ H1 x v Q I1 r1 q1)
theorem opI {f:Value->Value->Sem Value}{C:Int->Int->Prop}{g:Int->Int->Int}
  (rule:∀(i j:Int) (t u:Tok) (s:Shared) (Q:Value->Shared->Prop) (E:Value->Shared->Prop),C i j->Q (.int (g i j) s.toks) {s with toks:=s.toks+1}->wpAny (model X.prog X.w) X.A (f (.int i t) (.int j u)) Q E s):
  ki X f (rI C λi j=>.int (g i j)):=by
 intro ah s σ H x y v u Q I rx ry h;obtain⟨i,j,rfl,rfl,hc,q⟩:=h;obtain⟨t,rfl⟩:=rx;obtain⟨t',rfl⟩:=ry;exact rule i j t t' s _ _ hc ⟨.int (g i j),H,I.nH _,⟨_,rfl⟩,q⟩
theorem afQ {f:Value->Value->Sem Value}{g:Int->Int->Int}
  (rule:∀(i j:Int) (t u:Tok) (s:Shared) (Q:Value->Shared->Prop) (E:Value->Shared->Prop),Q (.int (g i j) s.toks) {s with toks:=s.toks+1}->wpAny (model X.prog X.w) X.A (f (.int i t) (.int j u)) Q E s):
  ki X f (QH λi j=>.int (g i j)):=by
 intro ah s σ H x y v u Q I rx ry h;obtain⟨i,j,rfl,rfl,q⟩:=h;obtain⟨t,rfl⟩:=rx;obtain⟨t',rfl⟩:=ry;exact rule i j t t' s _ _ ⟨.int (g i j),H,I.nH _,⟨_,rfl⟩,q⟩
theorem QI {f:Value->Value->Sem Value}{g:Int->Int->Bool}
  (rule:∀(i j:Int) (t u:Tok) (s:Shared) (Q:Value->Shared->Prop) (E:Value->Shared->Prop),Q (.bool (g i j)) s->wpAny (model X.prog X.w) X.A (f (.int i t) (.int j u)) Q E s):
  ki X f (QH λi j=>.bl (g i j)):=by
 intro ah s σ H x y v u Q I rx ry h;obtain⟨i,j,rfl,rfl,q⟩:=h;obtain⟨t,rfl⟩:=rx;obtain⟨t',rfl⟩:=ry;exact rule i j t t' s _ _ ⟨.bl (g i j),H,I,rfl,q⟩
noncomputable def alf (i j:Int):Prop:=0<j/\j<1073741824
noncomputable def Zm (i j:Int):Prop:=(-(2 ^ 64)<i/\i<2 ^ 64)\/(-(2 ^ 64)<j/\j<2 ^ 64)
theorem Zm.ok (h:Zm i j):IntMulOk i j:=by
 rcases h with⟨h1,h2⟩|⟨h1,h2⟩
 ·exact .of_left (intBits_le_64 h1 h2)
 ·exact .of_right (intBits_le_64 h1 h2)
theorem Zn:ki X (binaryOp .Add) (QH λi j=>.int (i+j)):=afQ λ_ _ _ _ _ _ _ q=>add_int q
theorem Zo:ki X (binaryOp .Sub) (QH λi j=>.int (i - j)):=afQ λ_ _ _ _ _ _ _ q=>sub_int q
theorem Zp:ki X (binaryOp .Mult) (rI Zm λi j=>.int (i * j)):=opI λ_ _ _ _ _ _ _ hc q=>mul_int q hc.ok
theorem QJ:ki X (binaryOp .FloorDiv) (rI alf λi j=>.int (i / j)):=opI λi j _ _ _ _ _ hc q=>by
 have h1:(0:Int)<j:=hc.1
 have h2:j<1073741824:=hc.2
 exact floordiv_int (by omega) (by rw[Int.fdiv_eq_ediv_of_nonneg i (by omega)];exact q) (.inl (PyProof.noPylong_small (by omega)))
theorem Zq:ki X (binaryOp .Mod) (rI (λ_ j=>0<j) λi j=>.int (i % j)):=opI λi j _ _ _ _ _ hc q=>by
 have h1:(0:Int)<j:=hc
 exact mod_int' (by omega) (by rw[Int.fmod_eq_emod_of_nonneg i (by omega)];exact q)
theorem unI {f:Value->Sem Value}{g:Int->Int}
  (rule:∀(i:Int) (t:Tok) (s:Shared) (Q:Value->Shared->Prop) (E:Value->Shared->Prop),Q (.int (g i) s.toks) {s with toks:=s.toks+1}->wpAny (model X.prog X.w) X.A (f (.int i t)) Q E s):
  UnR X f (rU λi=>.int (g i)):=by
 intro ah s σ H x v Q I rx h;obtain⟨i,rfl,q⟩:=h;obtain⟨t,rfl⟩:=rx;exact rule i t s _ _ ⟨.int (g i),H,I.nH _,⟨_,rfl⟩,q⟩
theorem Zr:UnR X (unaryOp .USub) (rU λi=>.int (-i)):=unI λ_ _ _ _ _ q=>neg_int q
noncomputable def Zs:V->V->Bool
 |.br,.br=>true|.br,.int _=>true|.int _,.br=>true|.br,.bl _=>true|.bl _,.br=>true|.br,.str _=>true|.str _,.br=>true
 |.int _,.int _=>true|.bl _,.bl _=>true|.str _,.str _=>true|.J_ _,.J_ _=>true
 |.int _,.str _=>true|.str _,.int _=>true|.bl _,.str _=>true|.str _,.bl _=>true
 |_,_=>false
noncomputable def rEq:R2:=λx y H Q=>Zs x y=true/\Q (.bl (decide (x=y))) H
noncomputable def rNe:R2:=λx y H Q=>Zs x y=true/\Q (.bl (!decide (x=y))) H
theorem FI:decide (V.int i=V.int j)=(i == j):=by
 rw[zbg];simp
theorem Dw:decide (V.bl i=V.bl j)=(i == j):=by
 rw[zbg];simp
theorem FJ:decide (V.str i=V.str j)=(i == j):=by
 rw[zbg];simp
theorem FL:decide (V.J_ i=V.J_ j)=(i.toList == j.toList):=by
 rw[zbg];cases i;cases j;simp
theorem bU (I:aL X ah σ H s)(q:Q (.bl k) H)(e:k=k'):EP X ah σ Q (.bool k') s:=by
 subst e;exact⟨.bl k,H,I,rfl,q⟩
theorem afR:ki X (compareOp .Eq) rEq:=by
 intro ah s σ H x y v u Q I rx ry h;obtain⟨hs,q⟩:=h;cases x with
 |br =>
  cases rx;cases y with
  |br=>cases ry;exact PySem.EqNone.eq_none_none (bU I q (by simp))
  |bl j=>cases ry;exact PySem.EqNone.eq_none_bool (bU I q (by simp))
  |int j=>obtain⟨t',rfl⟩:=ry;exact PySem.EqNone.eq_none_int (bU I q (by simp))
  |str j=>obtain⟨t',rfl⟩:=ry;exact PySem.EqNone.eq_none_str (bU I q (by simp))
  |_=>exact absurd (show false=true from hs) zal
 |bl i =>
  cases rx;cases y with
  |br=>cases ry;exact PySem.EqNone.eq_bool_none (bU I q (by simp))
  |bl j=>cases ry;exact eq_bool (bU I q Dw)
  |str j=>obtain⟨t',rfl⟩:=ry;exact PySem.EqMixed.eq_bool_str (bU I q (by simp))
  |_=>exact absurd (show false=true from hs) zal
 |int i =>
  obtain⟨t,rfl⟩:=rx;cases y with
  |br=>cases ry;exact PySem.EqNone.eq_int_none (bU I q (by simp))
  |int j=>obtain⟨t',rfl⟩:=ry;exact eq_int (bU I q FI)
  |str j=>obtain⟨t',rfl⟩:=ry;exact PySem.EqMixed.eq_int_str (bU I q (by simp))
  |_=>exact absurd (show false=true from hs) zal
 |str i =>
  obtain⟨t,rfl⟩:=rx;cases y with
  |br=>cases ry;exact PySem.EqNone.eq_str_none (bU I q (by simp))
  |bl j=>cases ry;exact PySem.EqMixed.eq_str_bool (bU I q (by simp))
  |int j=>obtain⟨t',rfl⟩:=ry;exact PySem.EqMixed.eq_str_int (bU I q (by simp))
  |str j=>obtain⟨t',rfl⟩:=ry;exact eq_str (bU I q FJ)
  |_=>exact absurd (show false=true from hs) zal
 |J_ i =>
  obtain⟨t,rfl⟩:=rx;cases y with
  |J_ j=>obtain⟨t',rfl⟩:=ry;exact PySem.W.eq_bytes (bU I q FL)
  |_=>exact absurd (show false=true from hs) zal
 |_=>cases y<;>exact absurd (show false=true from hs) zal
theorem afS:ki X (compareOp .NotEq) rNe:=by
 intro ah s σ H x y v u Q I rx ry h;obtain⟨hs,q⟩:=h;cases x with
 |br =>
  cases rx;cases y with
  |br=>cases ry;exact PySem.EqNone.ne_none_none (bU I q (by simp))
  |bl j=>cases ry;exact PySem.EqNone.ne_none_bool (bU I q (by simp))
  |int j=>obtain⟨t',rfl⟩:=ry;exact PySem.EqNone.ne_none_int (bU I q (by simp))
  |str j=>obtain⟨t',rfl⟩:=ry;exact PySem.EqNone.ne_none_str (bU I q (by simp))
  |_=>exact absurd (show false=true from hs) zal
 |bl i =>
  cases rx;cases y with
  |br=>cases ry;exact PySem.EqNone.ne_bool_none (bU I q (by simp))
  |bl j=>cases ry;exact ne_bool (bU I q (congrArg not Dw))
  |str j=>obtain⟨t',rfl⟩:=ry;exact PySem.EqMixed.ne_bool_str (bU I q (by simp))
  |_=>exact absurd (show false=true from hs) zal
 |int i =>
  obtain⟨t,rfl⟩:=rx;cases y with
  |br=>cases ry;exact PySem.EqNone.ne_int_none (bU I q (by simp))
  |int j=>obtain⟨t',rfl⟩:=ry;exact ne_int (bU I q (congrArg not FI))
  |str j=>obtain⟨t',rfl⟩:=ry;exact PySem.EqMixed.ne_int_str (bU I q (by simp))
  |_=>exact absurd (show false=true from hs) zal
 |str i =>
  obtain⟨t,rfl⟩:=rx;cases y with
  |br=>cases ry;exact PySem.EqNone.ne_str_none (bU I q (by simp))
  |bl j=>cases ry;exact PySem.EqMixed.ne_str_bool (bU I q (by simp))
  |int j=>obtain⟨t',rfl⟩:=ry;exact PySem.EqMixed.ne_str_int (bU I q (by simp))
  |str j=>obtain⟨t',rfl⟩:=ry;exact ne_str (bU I q (congrArg not FJ))
  |_=>exact absurd (show false=true from hs) zal
 |J_ i =>
  obtain⟨t,rfl⟩:=rx;cases y with
  |J_ j=>obtain⟨t',rfl⟩:=ry;exact PySem.W.ne_bytes (bU I q (congrArg not FL))
  |_=>exact absurd (show false=true from hs) zal
 |_=>cases y<;>exact absurd (show false=true from hs) zal
theorem afT:ki X (compareOp .Lt) (QH λi j=>.bl (decide (i<j))):=QI λ_ _ _ _ _ _ _ q=>lt_int q
theorem afU:ki X (compareOp .LtE) (QH λi j=>.bl (decide (i<=j))):=QI λ_ _ _ _ _ _ _ q=>le_int q
theorem afV:ki X (compareOp .Gt) (QH λi j=>.bl (decide (j<i))):=QI λ_ _ _ _ _ _ _ q=>gt_int q
theorem afW:ki X (compareOp .GtE) (QH λi j=>.bl (decide (j<=i))):=QI λ_ _ _ _ _ _ _ q=>ge_int q
theorem Ig:ki X (compareOp .In) (λx y H Q=>∃i j,x = .str i/\y = .str j/\Q (.bl (!(Builtin.Str.occurrences j i 0 j.length 1).isEmpty)) H):=by
 intro ah s σ H x y v u Q I rx ry h;obtain⟨i,j,rfl,rfl,q⟩:=h;obtain⟨t,rfl⟩:=rx;obtain⟨t',rfl⟩:=ry;exact in_str (bU I q rfl)
theorem Zt:ki X (compareOp .Is) (λx y H Q=>y = .br/\Q (.bl (decide (x = .br))) H):=by
 intro ah s σ H x y v u Q I rx ry h;obtain⟨rfl,q⟩:=h;cases ry;refine is_none_gen (bU I q ?_)
 cases x<;>first
  | (cases rx;rfl)
  | (obtain⟨t,rfl⟩:=rx;rfl)
theorem QK:ki X (compareOp .IsNot) (λx y H Q=>y = .br/\Q (.bl (!decide (x = .br))) H):=by
 intro ah s σ H x y v u Q I rx ry h;obtain⟨rfl,q⟩:=h;cases ry;refine isnot_none_gen (bU I q ?_)
 cases x<;>first
  | (cases rx;rfl)
  | (obtain⟨t,rfl⟩:=rx;rfl)
theorem yU (b:Expr)(h:autoParam (op ≠ .In) zp_1)(h2:autoParam (op ≠ .NotIn) zp_1):behindInMarks op b=false:=by
 have e1:(op == CmpOp.In)=false:=by cases op<;>first|rfl|exact absurd rfl h
 have e2:(op == CmpOp.NotIn)=false:=by cases op<;>first|rfl|exact absurd rfl h2
 cases b<;>simp[behindInMarks,e1,e2]
theorem QL (ho:ki X (compareOp op) r)(ha:PE X a ta)(hb:PE X b tb)(hm:behindInMarks op b=false):PE X (.Compare a [op] [b] pos) (tOp r ta tb):=by
 intro ah s σ H Q I h;exact wpAny_Compare1 (Zl ha hb I h λv u s2 x y H2 I2 rx ry q=>ho ah s2 σ H2 x y v u Q I2 rx ry q) hm
noncomputable def U_ (t:TE):TT:=λσ H Q=>t σ H λx H'=>∃k,x = .bl k/\Q k H'
theorem QM (ho:ki X (compareOp op) r)(ha:PE X a ta)(hb:PE X b tb)(hm:behindInMarks op b=false):PT X (.Compare a [op] [b] pos) (U_ (tOp r ta tb)):=by
 intro ah s σ H Q I h;refine wpAny_isTrue_Compare1 (cQ (ha ah s σ H _ I h) λv s1 ⟨x,H1,I1,r1,q1⟩=>cQ (hb ah s1 σ H1 _ I1 q1) λu s2 ⟨y,H2,I2,r2,q2⟩ =>
  cQ (ho ah s2 σ H2 x y v u _ I2 r1 r2 q2) λc s3 ⟨z,H3,I3,r3,k,e,q3⟩=>?_) hm
 subst e;cases r3;exact zaX ⟨H3,I3,q3⟩
noncomputable def Dy (r r':R2)(ta tb tc:TE):TE:=λσ H Q=>ta σ H λx H1=>tb σ H1 λy H2=>r x y H2 λz H3=>∃k,z = .bl k /\
 (if k=true then tc σ H3 λw' H4=>r' y w' H4 Q else Q (.bl false) H3)
theorem KO (ho:ki X (compareOp op) r)(vW:ki X (compareOp KP) r')(ha:PE X a ta)(hb:PE X b tb)(hc:PE X c tc)
  (hm:autoParam (lastMarks [op,KP] [b,c]=false) zp_5):PE X (.Compare a [op,KP] [b,c] pos) (Dy r r' ta tb tc):=by
 intro ah s σ H Q I h;refine Compare_chain (cQ (ha ah s σ H _ I h) λv s1 ⟨x,H1,I1,r1,q1⟩=>chain_link (cQ (hb ah s1 σ H1 _ I1 q1) λu s2 ⟨y,H2,I2,r2,q2⟩ =>
  cQ (ho ah s2 σ H2 x y v u _ I2 r1 r2 q2) λd s3 ⟨z,H3,I3,r3,k,e,q3⟩=>?_)) hm
 subst e;cases r3;refine zaX ?_
 cases k with
 |false=>exact ite_ff ⟨.bl false,H3,I3,rfl,q3⟩
 |true=>exact ite_tt (chain_last (cQ (hc ah s3 σ H3 _ I3 q3) λw' s4 ⟨z',H4,I4,r4,q4⟩=>vW ah s4 σ H4 y z' u w' Q I4 r2 r4 q4))
theorem KQ (ho:ki X (compareOp op) r)(vW:ki X (compareOp KP) r')(ha:PE X a ta)(hb:PE X b tb)(hc:PE X c tc)
  (hm:autoParam (lastMarks [op,KP] [b,c]=false) zp_5):PT X (.Compare a [op,KP] [b,c] pos) (U_ (Dy r r' ta tb tc)):=by
 intro ah s σ H Q I h;refine isTrue_chain (cQ (ha ah s σ H _ I h) λv s1 ⟨x,H1,I1,r1,q1⟩=>test_link (cQ (hb ah s1 σ H1 _ I1 q1) λu s2 ⟨y,H2,I2,r2,q2⟩ =>
  cQ (ho ah s2 σ H2 x y v u _ I2 r1 r2 q2) λd s3 ⟨z,H3,I3,r3,k,e,q3⟩=>?_)) hm
 subst e;cases r3;refine zaX ?_
 cases k with
 |false =>
  obtain⟨k',e',q'⟩:=q3;cases e';exact ite_ff ⟨H3,I3,q'⟩
 |true =>
  refine ite_tt (test_last (cQ (hc ah s3 σ H3 _ I3 q3) λw' s4 ⟨z',H4,I4,r4,q4⟩=>cQ (vW ah s4 σ H4 y z' u w' _ I4 r2 r4 q4) λd' s5 ⟨z2,H5,I5,r5,k2,e2,q5⟩=>?_))
  subst e2;cases r5;exact zaX ⟨H5,I5,q5⟩
theorem pW:(sizeLine:Nat)<2 ^ 63:=by rw[zdN];decide
theorem Dz:ki X (binaryOp .Add) (λx y H Q=>∃i j,x = .str i/\y = .str j/\i.length+j.length<=sizeLine/\Q (.str (i++j)) H):=by
 intro ah s σ H x y v u Q I rx ry h;obtain⟨i,j,rfl,rfl,hz,q⟩:=h;obtain⟨t,rfl⟩:=rx;obtain⟨t',rfl⟩:=ry;exact add_str (λt' tk=>⟨.str (i++j),H,I.nH _,⟨_,rfl⟩,q⟩) hz
theorem sP (r:bL [x] us):∃u,us=[u]/\bI x u:=by
 cases r with
 |cons r1 r2=>cases r2;exact⟨_,rfl,r1⟩
theorem afX (r:bL [x,y] us):∃u w',us=[u,w']/\bI x u/\bI y w':=by
 cases r with
 |cons r1 r2 =>
  cases r2 with
  |cons r3 r4=>cases r4;exact⟨_,_,rfl,r1,r3⟩
theorem Ih (hc:X.fX=true):jJ X (.builtin "min") (λxs H Q=>∃i j,xs=[.int i,.int j]/\Q (.int (if j<i then j else i)) H):=by
 intro ah s σ H xs us Q I r h;obtain⟨i,j,rfl,q⟩:=h;obtain⟨u,w',rfl,⟨t,rfl⟩,⟨t',rfl⟩⟩:=afX r
 refine min_two_ints (I.ok.hd hc) λh' tk k=>⟨_,H,I.gZ k,?_,q⟩
 by_cases hj:j<i
 ·rw[if_pos hj,if_pos hj];exact⟨_,rfl⟩
 ·rw[if_neg hj,if_neg hj];exact⟨_,rfl⟩
structure DA (h:Heap) (x dx C:Addr) (mA:Str->Option Value):Prop where
 lW:h.get? x=some (PySem.W.instObj C dx)
 ns:h.Ns1 dx mA
 ne:dx≠x
theorem pX {h:Heap}{dx:Addr}{mA:Str->Option Value}(n:h.Ns1 dx mA):∃od,h.get? dx=some od/\∀name,PySem.W.lookIn name od=some (mA name):=by
 obtain⟨o,es,ep,ho,hd,hk,_,hm⟩:=n;refine⟨o,ho,λname=>?_⟩
 have e:=hm name;unfold nsFind findBy at e;rw[<-Array.find?_toList] at e;unfold PySem.W.lookIn;rw[hd];dsimp only;split
 ·rename_i y q
  rw[q] at e;exact congrArg some e
 ·rename_i q
  rw[q] at e;have a:es.toList.any (·.refKey)=false:=by
   rw[List.any_eq_false];intro y hy;obtain⟨z,t,KR⟩:=hk y (Array.mem_toList_iff.mp hy)
   simp[DictEntry.refKey,KR]
  have a':¬ es.toList.any (·.refKey)=true:=by rw[a];exact zal
  rw[if_neg a'];exact congrArg some e
theorem DA.QN (I:DA h x dx C mA):∃od,PySem.W.InstAt h x (PySem.W.instObj C dx) C (some od)/\∀name,PySem.W.lookIn name od=some (mA name):=
 let ⟨od,ho,hl⟩:=pX I.ns
 ⟨od,⟨I.lW,rfl,rfl,ho⟩,hl⟩
section
variable {prog:Program}{w:World}{A:Around}{E:Value->Shared->Prop}{s:Shared}{K:PySem.W.Frag}{x dx C f:Addr}{mA:Str->Option Value}{name:Str}{v:Value}
theorem QO (X:K.In s.heap)(I:DA s.heap x dx C mA)(hg:PySem.W.plainGet K C name=true)(hh:PySem.W.hasDictIn K C=true)
  (ha:PySem.W.findIn K (.ref C) name=some none) (hv:mA name=some v) (hv':PySem.W.handedIn v=true) (h:Q v {s with toks:=s.toks+1}):
  wpAny (model prog w) A (getAttr (.ref x) name KS) Q E s:=by
 obtain⟨od,J,hl⟩:=I.QN;exact PySem.W.get_value X J (zcW hg).1 (PySem.W.findObj_own hh ha rfl (by rw[hl,hv])) hv' h
theorem KU (X:K.In s.heap)(I:DA s.heap x dx C mA)(hg:PySem.W.plainGet K C name=true)
  (hf:PySem.W.findIn K (.ref C) name=some (some (.ref f))) (ht:PySem.W.isFn K (.ref f)=true) (hv:mA name=none) (h:Q (.ref f,[.ref x]) s):
  wpAny (model prog w) A (getMethod (.ref x) name pl) Q E s:=by
 obtain⟨od,J,hl⟩:=I.QN;exact PySem.W.method_fn X J (zcW hg).1 (zcW hg).2 hf (beq_iff_eq.mp ht) (by show (PySem.W.lookIn name od).map (·.isSome)=some false;rw[hl,hv];rfl) h
theorem QS (X:K.In s.heap)(I:DA s.heap x dx C mA)
  (hs:PySem.W.findIn K (.ref C) "__setattr__"=some (some (.builtin "object.__setattr__"))) (hp:PySem.W.plainOver K C=true) (ht:PySem.W.takerIn K C name=some none) (hh:PySem.W.hasDictIn K C=true)
  (hw:PySem.Within mA ns) (hsz:ns.length<=sizeLine)
  (h:∀h',DA h' x dx C (λy=>if y=name then some v else mA y)->Heap.SameBut dx s.heap h'->Q () {s with heap:=h',toks:=s.toks+2}):
  wpAny (model prog w) A (setAttr (.ref x) name v) Q E s:=by
 obtain⟨od,J,hl⟩:=I.QN;refine zeB X J hs (PySem.W.osa_open (s:={s with toks:=s.toks+1}) (r:=none) X J hp ht λb=>?_)
 obtain⟨cd,hc,U8⟩:=PySem.W.any_some hh;have hx:s.heap.get? x=some ⟨.ref C,some dx,.plain,#[]⟩:=I.lW
 refine zaa (zaf (zaa (zaa (zdU hx (zaa (zbw (s:={s with toks:=s.toks+1}) (zcp X hc) ?_))))))
 rw[U8];refine zaf (a:=some dx) (zaa (zaf (zaa ?_)))
 refine wpAny_nsSet1 (s:={s with toks:=s.toks+1}) I.ns λh' Ka hs2=>?_
 obtain⟨oD,esD,epD,Va,hdD,hcD⟩:=Ka.count (PySem.Within.cons name v hw)
 refine zaa (zdy Va (by rw[hdD];exact zdz (zai hcD (by rw[zaB];omega))) ?_)
 exact zaf (h _ ⟨(hs2.2 _ (zbc I.ne)).trans I.lW,Ka,I.ne⟩ hs2)
theorem KW (X:K.In s.heap)(hm:PySem.W.makesIn K C=true)
  (hi:PySem.W.findIn K (.ref C) "__init__"=some (some (.ref f))) (hf:PySem.W.typeIn K (.ref f)=some (.type "function"))
  (h:codeAny (model prog w) (A.under (.builtin "type.__call__" ⟨.ref C::vs,kw⟩)) (.call (.ref f) ⟨.ref (s.heap.objs.size+1)::vs,kw⟩) (PySem.W.InitBack (s.heap.objs.size+1) R)
   {s with heap:=(s.heap.push PySem.W.emptyDict).push (PySem.W.instObj C s.heap.objs.size)}):
  codeAny (model prog w) A (.call (.ref C) ⟨vs,kw⟩) R s:=by
 obtain⟨hh,g,d,t,os⟩:=s;exact PySem.W.make_core (PySem.W.makes_of X hm) (zbP X hi) (λself=>PySem.W.bind_fn X self hf) (.inl rfl) h
end
noncomputable def gr (f:Str)(v:V):List (Str×V)->List (Str×V)
 |[]=>[(f,v)]
 | (g,x)::r=>if g=f then (g,v)::r else (g,x)::gr f v r
theorem lY (f g:Str)(v:V):∀fs:List (Str×V),(gr f v fs).lookup g=if g=f then some v else fs.lookup g
 |[]=>by
  show List.lookup g [(f,v)]=_
  by_cases h:g=f
  ·have hb:(g == f)=true:=beq_iff_eq.mpr h
   simp only[List.lookup,hb,if_pos h]
  ·have hb:(g == f)=false:=beq_eq_false_iff_ne.mpr h
   simp only[List.lookup,hb,if_neg h]
 | (k,x)::r=>by
  have ih:=lY f g v r;rw[show gr f v ((k,x)::r)=(if k=f then (k,v)::r else (k,x)::gr f v r) from rfl];by_cases hk:k=f
  ·rw[if_pos hk]
   by_cases h:g=k
   ·have hb:(g == k)=true:=beq_iff_eq.mpr h
    simp only[List.lookup,hb,if_pos (h.trans hk)]
   ·have hb:(g == k)=false:=beq_eq_false_iff_ne.mpr h
    simp only[List.lookup,hb,if_neg (λe:g=f=>h (e.trans hk.symm))]
  ·rw[if_neg hk]
   by_cases h:g=k
   ·have hb:(g == k)=true:=beq_iff_eq.mpr h
    simp only[List.lookup,hb,if_neg (λe:g=f=>hk (h.symm.trans e))]
   ·have hb:(g == k)=false:=beq_eq_false_iff_ne.mpr h
    simp only[List.lookup,hb];exact ih
theorem jK (f:Str)(v:V):∀fs:List (Str×V),f∈(gr f v fs).map (·.1)/\∀g,g∈fs.map (·.1)->g∈(gr f v fs).map (·.1)
 |[]=>⟨by simp[gr],λg h=>by simp at h⟩
 | (k,x)::r=>by
  obtain⟨i1,i2⟩:=jK f v r;rw[show gr f v ((k,x)::r)=(if k=f then (k,v)::r else (k,x)::gr f v r) from rfl];by_cases hk:k=f
  ·rw[if_pos hk]
   subst hk;exact⟨by simp,λg h=>by simpa using h⟩
  ·rw[if_neg hk]
   refine⟨?_,λg h=>?_⟩
   ·rw[zas]
    exact zaO _ i1
   ·rw[zas] at h ⊢
    rcases zan.mp h with e|e
    ·exact zan.mpr (.inl e)
    ·exact zaO _ (i2 g e)
theorem qK (f:Str)(v:V):∀fs:List (Str×V),(gr f v fs).length<=fs.length+1
 |[]=>by simp[gr]
 | (k,x)::r=>by
  have ih:=qK f v r;rw[show gr f v ((k,x)::r)=(if k=f then (k,v)::r else (k,x)::gr f v r) from rfl];by_cases hk:k=f
  ·rw[if_pos hk,zaB,zaB];omega
  ·rw[if_neg hk,zaB,zaB];omega
theorem iG.rQ (r:iG (some v) o):∃u,o=some u/\bI v u:=by
 cases o with
 |none=>exact (show False from r).elim
 |some u=>exact⟨u,rfl,r⟩
theorem iG.QT (r:iG none o):o=none:=by
 cases o with
 |none=>rfl
 |some u=>exact (show False from r).elim
theorem wF (r:bI v u):PySem.W.handedIn u=true:=by
 cases v with
 |br=>cases (show u=Value.none from r);rfl
 |bl b=>cases (show u=Value.bool b from r);rfl
 |int i=>obtain⟨t,e⟩:=(show ∃t,u=Value.int i t from r);cases e;rfl
 |str x=>obtain⟨t,e⟩:=(show ∃t,u=Value.str x t from r);cases e;rfl
 |J_ b=>obtain⟨t,e⟩:=(show ∃t,u=Value.bytes b t from r);cases e;rfl
 |YR b=>obtain⟨t,e⟩:=(show ∃t,u=Value.float b t from r);cases e;rfl
 |ref a=>cases (show u=Value.ref a from r);rfl
 |ty n=>cases (show u=Value.type n from r);rfl
theorem rR (b_:mS P w H h)(e:H a=some (.dZ C dx fs)):∃mA,DA h a dx C mA/\(∀f,iG (fs.lookup f) (mA f))/\PySem.Within mA (fs.map (·.1))/\fs.length<=1000/\H dx=some (.sD a):=by
 obtain⟨d,z,ne,ob,mA,n,r,q⟩:=(show cD P w H h a (.dZ C dx fs) from b_ a _ e)
 exact⟨mA,⟨ob,n,ne⟩,r,q,z,d⟩
structure rS (K:PySem.W.Frag) (C:Addr):Prop where
 pg:PySem.W.plainGet K C Str.empty=true
 hd:PySem.W.hasDictIn K C=true
 po:PySem.W.plainOver K C=true
 sa:PySem.W.findIn K (.ref C) "__setattr__"=some (some (.builtin "object.__setattr__"))
theorem rS.get {K:PySem.W.Frag}{C:Addr}(c:rS K C)(f:Str):PySem.W.plainGet K C f=true:=c.pg
noncomputable def bV (K:PySem.W.Frag)(C:Addr)(f:Str):Prop:=PySem.W.findIn K (.ref C) f=some none
theorem bV.af1 {K:PySem.W.Frag}{C:Addr}{f:Str}(n:bV K C f):PySem.W.takerIn K C f=some none:=by
 unfold PySem.W.takerIn;rw[show PySem.W.findIn K (.ref C) f=some none from n];rfl
structure cN (K:PySem.W.Frag) (C:Addr) (m:Str) (f:Addr):Prop where
 rq:PySem.W.findIn K (.ref C) m=some (some (.ref f))
 fn:PySem.W.isFn K (.ref f)=true
 kp:PySem.W.keepIn K (.ref f)=true
theorem sQ (I:aL X ah σ H s)(e:H a=some (.dZ C dx fs))(c:rS X.K C)(n:bV X.K C f)(l:fs.lookup f=some v)
  (h:∀u s',aL X ah σ H s'->bI v u->Q u s'):wpAny (model X.prog X.w) A (getAttr (.ref a) f b) Q E s:=by
 obtain⟨mA,O,r,_,_,_⟩:=rR I.b_ e;obtain⟨u,hu,ru⟩:=iG.rQ (v:=v) (o:=mA f) (by rw[<-l];exact r f)
 exact QO I.jH O (c.get f) c.hd n hu (wF ru) (h u _ (I.nH _) ru)
theorem nJ (I:aL X ah σ H s)(e:H a=some (.dZ C dx fs))(c:rS X.K C)(k:cN X.K C m g)(l:fs.lookup m=none)
  (h:Q (.ref g,[.ref a]) s):wpAny (model X.prog X.w) A (getMethod (.ref a) m pl) Q E s:=by
 obtain⟨mA,O,r,_,_,_⟩:=rR I.b_ e;have hn:mA m=none:=iG.QT (by rw[<-l];exact r m)
 exact KU I.jH O (c.get m) k.rq k.fn hn h
theorem sR (I:aL X ah σ H s)(e:H a=some (.dZ C dx fs))(c:rS X.K C)(n:bV X.K C f)(hl:fs.length<1000)(ry:bI y u)
  (h:∀s',aL X ah σ (bF H a (.dZ C dx (gr f y fs))) s'->Q () s'):wpAny (model X.prog X.w) A (setAttr (.ref a) f u) Q E s:=by
 obtain⟨mA,O,r,wi,_,ho⟩:=rR I.b_ e;have hz:(fs.map (·.1)).length<=sizeLine:=by rw[zae,zdN];omega
 refine QS I.jH O c.sa c.po n.af1 c.hd wi hz λh' O' sb=>h _ ?_
 have hd:∃o,h'.get? dx=some o:=let ⟨o,_,_,e',_⟩:=O'.ns;⟨o,e'⟩
 refine I.ji (x:=a) (e:=dx) (by rw[e];exact True.intro) (.inr ho) (λb q hb z=>(sb.2 b hb).trans z) hd ?_
 refine⟨by rw[au O.ne];exact ho,?_,O.ne,O'.lW,_,O'.ns,λg=>?_,λg hg=>?_⟩
 ·have:=qK f y fs;omega
 ·show iG ((gr f y fs).lookup g) (if g=f then some u else mA g)
  rw[lY];by_cases q:g=f
  ·rw[if_pos q,if_pos q];exact ry
  ·rw[if_neg q,if_neg q];exact r g
 ·by_cases q:g=f
  ·rw[q];exact (jK f y fs).1
  ·refine (jK f y fs).2 g (wi g λz=>hg ?_)
   show (if g=f then some u else mA g)=none
   rw[if_neg q];exact z
theorem aL.made (I:aL X ah σ H s):aL X ah σ (bF (bF H s.heap.objs.size (.sD (s.heap.objs.size+1))) (s.heap.objs.size+1) (.dZ C s.heap.objs.size []))
  {s with heap:=(s.heap.push PySem.W.emptyDict).push (PySem.W.instObj C s.heap.objs.size)}:=by
 have e1:(s.heap.push PySem.W.emptyDict).get? s.heap.objs.size=some PySem.W.emptyDict:=zap s.heap rfl
 have e2:((s.heap.push PySem.W.emptyDict).push (PySem.W.instObj C s.heap.objs.size)).get? (s.heap.objs.size+1)=some (PySem.W.instObj C s.heap.objs.size):=by
  have:=zap (s.heap.push PySem.W.emptyDict) (o:=PySem.W.instObj C s.heap.objs.size) rfl
  rwa[zda] at this
 have e3:(s.heap.push PySem.W.emptyDict).Ns s.heap.objs.size (λ_=>none):=⟨PySem.W.emptyDict,#[],_,e1,rfl,(λe he=>absurd he (by simp)),λ_=>rfl⟩
 have I1:=I.jF (a:=s.heap.objs.size) (o:=.sD (s.heap.objs.size+1)) (h':=s.heap.push PySem.W.emptyDict) (t':=s.toks) (λb u q=>zac _ q) (zah _) ⟨_,e1⟩
 refine I1.jF (a:=s.heap.objs.size+1) (o:=.dZ C s.heap.objs.size []) (t':=s.toks) (λb u q=>zac _ q) (Nat.le_of_eq (zda _ _)) ?_
 have ne:s.heap.objs.size≠s.heap.objs.size+1:=zar (zbi _)
 refine⟨by rw[au ne,ay],zcG _,ne,e2,λ_=>none,(Heap.Ns1.of_empty e3).at λo q=>zac _ q,λ_=>True.intro,λy hy=>absurd rfl hy⟩
theorem FN (hb:attributeBase e f env (eval e env)=eval e env)
  (h:wpAny (model prog w) A (eval e env) (λo cM=>wpAny (model prog w) A (getAttr o f true) Q E cM) E s):wpAny (model prog w) A (eval (.Attribute e f pos) env) Q E s:=
 Attribute_any_ h (by rw[arm_eval_Attribute,hb])
noncomputable def alg (K:PySem.W.Frag)(ta:TE)(f:Str):TE:=λσ H Q=>ta σ H λx H1=>∃a C dx fs v,x = .ref a/\H1 a=some (.dZ C dx fs)/\rS K C/\bV K C f/\fs.lookup f=some v/\Q v H1
noncomputable def alh (K:PySem.W.Frag)(ta tv:TE)(f:Str):TS:=λD σ H=>tv σ H λy H1=>ta σ H1 λx H2=>∃a C dx fs,x = .ref a/\H2 a=some (.dZ C dx fs)/\rS K C/\bV K C f/\fs.length<1000 /\
 D.nx σ (bF H2 a (.dZ C dx (gr f y fs)))
noncomputable def QU (X:Cx)(op:Operator)(rd:V->V->Hp->VK->Prop):Prop:=
 ∀(ah:List (Addr×Obj)) (s:Shared) (σ:St) (H:Hp) (x y:V) (u v:Value) (Q:VK),aL X ah σ H s->bI x u->bI y v->rd x y H Q->wpAny (model X.prog X.w) X.A (inplaceOp op u v) (EP X ah σ Q) X.xe s
noncomputable def QV (K:PySem.W.Frag)(ta tv:TE)(rd:V->V->Hp->VK->Prop)(f:Str):TS:=λD σ H=>ta σ H λx H1=>∃a C dx fs v,x = .ref a/\H1 a=some (.dZ C dx fs)/\rS K C/\bV K C f/\fs.lookup f=some v /\
 tv σ H1 λy H2=>rd v y H2 λz H3=>∃dx' Kc,H3 a=some (.dZ C dx' Kc)/\Kc.length<1000/\D.nx σ (bF H3 a (.dZ C dx' (gr f z Kc)))
theorem Zu (he:PE X e ta)(hb:attributeBase e f X.env (eval e X.env)=eval e X.env):PE X (.Attribute e f pos) (alg X.K ta f):=by
 intro ah s σ H Q I h;refine FN hb (cQ (he ah s σ H _ I h) λu s1 ⟨x,H1,I1,rx,a,C,dx,fs,v,ex,ea,c,n,l,q⟩=>?_)
 subst ex;obtain rfl:u=Value.ref a:=rx
 exact sQ I1 ea c n l λu' s2 I2 ru=>⟨v,H1,I2,ru,q⟩
theorem Zv (ha:PE X o ta)(hv:PE X value tv)(hs:swapsWith value (some (.Attribute o f jI)) pos.line X.env=pure false):PS X (.Assign [.Attribute o f jI] value pos) (alh X.K ta tv f):=by
 intro ah s σ H D I h;refine zbZ (cQ (hv ah s σ H _ I h) λu s1 ⟨y,H1,I1,ry,q⟩=>cQ (ha ah s1 σ H1 _ I1 q) λov s2 ⟨x,H2,I2,rx,a,C,dx,fs,ex,ea,c,n,l,q2⟩=>?_) hs
 subst ex;obtain rfl:ov=Value.ref a:=rx
 exact sR I2 ea c n l ry λs3 I3=>⟨σ,_,I3,q2⟩
theorem Ii (ha:PE X o ta)(hv:PE X value tv)(hop:QU X op rd):PS X (.AugAssign (.Attribute o f apZ) op value pos) (QV X.K ta tv rd f):=by
 intro ah s σ H D I h;refine wpAny_AugAssign_AttributeAny (cQ (ha ah s σ H _ I h) λov s1 ⟨x,H1,I1,rx,a,C,dx,fs,v,ex,ea,c,n,l,q⟩=>?_)
 subst ex;obtain rfl:ov=Value.ref a:=rx
 refine sQ I1 ea c n l λu s2 I2 ru=>cQ (hv ah s2 σ H1 _ I2 q) λw3 s3 ⟨y,H2,I3,ry,q3⟩=>cQ (hop ah s3 σ H2 v y u w3 _ I3 ru ry q3) λw4 s4 ⟨z,H3,I4,rz,dx',Kc,ea',l',q4⟩=>?_
 exact sR I4 ea' c n l' rz λs5 I5=>⟨σ,_,I5,q4⟩
noncomputable def alj:V->V->Hp->VK->Prop:=λx y H Q=>∃i j,x = .int i/\y = .int j/\Q (.int (i+j)) H
theorem Zw:QU X .Add alj:=by
 rintro ah s σ H x y u v Q I rx ry ⟨i,j,rfl,rfl,q⟩
 obtain⟨t,rfl⟩:=(show ∃t,u=Value.int i t from rx)
 obtain⟨t',rfl⟩:=(show ∃t',v=Value.int j t' from ry)
 exact PyProof.Rows.iadd_int ⟨.int (i+j),H,I.nH _,⟨_,rfl⟩,q⟩
section
variable {X:Cx}{ah:List (Addr×Obj)}{σ:St}{H:Hp}{s:Shared}{A:Around}{E:Value->Shared->Prop}{Q:Value->Shared->Prop}{c:Value}{b:Bool}
inductive oz (K:PySem.W.Frag) (H:Hp):V->Value->Prop where
 |br:oz K H .br (.type "NoneType")
 |bl (x:Bool):oz K H (.bl x) (.type "bool")
 |int (i:Int):oz K H (.int i) (.type "int")
 |str (x:Str):oz K H (.str x) (.type "str")
 |YR (x:UInt64):oz K H (.YR x) (.type "float")
 |bM {a:Addr} {xs:List V} (e:H a=some (.bM xs)):oz K H (.ref a) (.type "list")
 |pP {a:Addr} {o:Obj} {xs:List V} (e:H a=some (.pP o (.bM xs))):oz K H (.ref a) (.type "list")
 |gE {a:Addr} {xs:List V} (e:H a=some (.gE xs)):oz K H (.ref a) (.type "tuple")
 |dK {a:Addr} {aO:List (dI×V)} (e:H a=some (.dK aO)):oz K H (.ref a) (.type "dict")
 |dT {a:Addr} {aO:List (List dI×V)} (e:H a=some (.dT aO)):oz K H (.ref a) (.type "dict")
 |dZ {a C dx:Addr} {fs:List (Str×V)} (e:H a=some (.dZ C dx fs)) (cl:rS K C) (ha:PySem.W.findIn K (.ref C) "__class__"=some (some (.builtin "object.__class__")))
   (hn:PySem.W.specialIn K (.builtin "object.__class__") "__get__"=some (some (.builtin "getset_descriptor.__get__"))) (htk:PySem.W.takesIn K (.builtin "object.__class__")=some true)
   (hm:PySem.W.mroIn K C (.type "object")=some true):oz K H (.ref a) (.ref C)
theorem Ij (I:aL X ah σ H s)(rx:bI x u)(ty:oz X.K H x t)(e:PySem.W.kitOne X.K t c=some b)(h:∀tk,Q (.bool b) {s with toks:=tk}):
  wpAny (model X.prog X.w) A (call (.builtin "isinstance") [u,c]) Q E s:=by
 cases ty with
 |br=>cases (show u=Value.none from rx);exact zba PySem.W.kitx_none I.jH True.intro e (λz=>nomatch z) h
 |bl y=>cases (show u=Value.bool y from rx);exact zba PySem.W.kitx_bool I.jH True.intro e (λz=>nomatch z) h
 |int i=>obtain⟨t,q⟩:=(show ∃t,u=Value.int i t from rx);cases q;exact zba PySem.W.kitx_int I.jH True.intro e (λz=>nomatch z) h
 |str y=>obtain⟨t,q⟩:=(show ∃t,u=Value.str y t from rx);cases q;exact zba PySem.W.kitx_str I.jH True.intro e (λz=>nomatch z) h
 |YR y=>obtain⟨t,q⟩:=(show ∃t,u=Value.float y t from rx);cases q;exact zba PySem.W.kitx_float I.jH True.intro e (λz=>nomatch z) h
 | @bM a xs ea =>
  cases (show u=Value.ref a from rx)
  obtain⟨_,_,n,_,h1⟩:=(show cD X.prog X.w H s.heap a (.bM xs) from I.b_ a _ ea)
  exact zba zeD I.jH ⟨_,h1,rfl⟩ e (λz=>nomatch z) h
 | @pP a ob xs ea =>
  cases (show u=Value.ref a from rx)
  obtain⟨_,_,_,n,_,h1⟩:=(show cD X.prog X.w H s.heap a (.pP ob (.bM xs)) from I.b_ a _ ea)
  exact zba zeD I.jH ⟨_,h1,rfl⟩ e (λz=>nomatch z) h
 | @gE a xs ea =>
  cases (show u=Value.ref a from rx)
  obtain⟨_,_,_,p⟩:=(show cD X.prog X.w H s.heap a (.gE xs) from I.b_ a _ ea)
  obtain⟨o,h1,h2,_⟩:=p;exact zba PySem.W.kitx_tuple I.jH ⟨o,h1,h2⟩ e (λz=>nomatch z) h
 | @dK a aO ea =>
  cases (show u=Value.ref a from rx)
  obtain⟨_,_,vs,_,p⟩:=(show cD X.prog X.w H s.heap a (.dK aO) from I.b_ a _ ea)
  obtain⟨o,es,ep,h1,h2,_⟩:=p;exact zba zeE I.jH ⟨o,h1,h2.1⟩ e (λz=>nomatch z) h
 | @dT a aO ea =>
  cases (show u=Value.ref a from rx)
  obtain⟨_,_,xs,_,o,es,ep,h1,h2,_⟩:=(show cD X.prog X.w H s.heap a (.dT aO) from I.b_ a _ ea)
  exact zba zeE I.jH ⟨o,h1,h2.1⟩ e (λz=>nomatch z) h
 | @dZ a C dx fs ea cl ha hn htk hm =>
  cases (show u=Value.ref a from rx)
  obtain⟨mA,O,_⟩:=rR I.b_ ea;obtain⟨od,J,_⟩:=O.QN;exact zba (PySem.W.kitx_own (cl.get _) cl.hd ha hn htk hm) I.jH J e (λz=>nomatch z) h
end
structure gH (k:Nat) (A:Around):Prop where
 hd:A.handled=none
 dp:A.depth+3 * k+5<recursionLimit
 un:A.units+16 * k+200<cLine
theorem gH.mono (r:gH k A)(h:j<=k):gH j A:=⟨r.hd,by have:=r.dp;omega,by have:=r.un;omega⟩
theorem gH.deeper (r:gH (k+1) A)(env:Env):gH k (A.deeper env):=
 ⟨r.hd,by have:=r.dp;show A.depth+1+3 * k+5<_;omega,by have:=r.un;show A.units+3+16 * k+200<_;omega⟩
theorem DB {A:Around}{C:Addr}{us:List Value}{kw:List (Str×Value)}:(A.under (.builtin "type.__call__" ⟨.ref C::us,kw⟩)).depth=A.depth+1:=by
 first|rfl|simp[Around.under,Code.weight,Code.isCreation,Code.isGuard,Code.isCaller,Code.frames,Code.isFrame,af2]
theorem DC {A:Around}{C:Addr}{us:List Value}{kw:List (Str×Value)}:(A.under (.builtin "type.__call__" ⟨.ref C::us,kw⟩)).units=A.units+1:=by
 first|rfl|simp[Around.under,Code.cUnits,Code.frames,Code.isFrame]
theorem gH.KY (r:gH (k+1) A)(C:Addr)(us:List Value)(kw:List (Str×Value)):gH k (A.under (.builtin "type.__call__" ⟨.ref C::us,kw⟩)):=
 ⟨r.hd,by have:=r.dp;rw[DB];omega,by have:=r.un;rw[DC];omega⟩
theorem gH.depth (r:gH k A):A.depth<recursionLimit:=by have:=r.dp;omega
noncomputable def af3:TA:=λ_ H Q=>Q [] H
noncomputable def af4 (ta:TE)(tr:TA):TA:=λσ H Q=>ta σ H λx H1=>tr σ H1 λxs H2=>Q (x::xs) H2
theorem DE:PA X [] af3:=λ_ _ _ _ H Q I h=>Calls.spliced_nil ⟨[],H,I,.nil,h⟩
theorem oA (ha:PE X e te)(hr:PA X es t)(hs:autoParam (starEach (e::es) X.env=(false,eval e X.env)::starEach es X.env) zp_0):PA X (e::es) (af4 te t):=by
 intro pos ah s σ H Q I h;rw[hs];show wpAny _ _ (spliced ((false,eval e X.env)::backTo pos (starEach es X.env))) _ _ s
 refine zde (cQ (ha ah s σ H _ I h) λu s1 ⟨x,H1,I1,r1,q1⟩=>?_)
 exact cQ (hr pos ah s1 σ H1 _ I1 q1) λus s2 ⟨xs,H2,I2,r2,q2⟩=>⟨x::xs,H2,I2,.cons r1 r2,q2⟩
noncomputable def alk (t:TA):TE:=λσ H Q=>t σ H λxs H1=>xs.length<=sizeLine/\∀p,H1 p=none->Q (.ref p) (bF H1 p (.gE xs))
noncomputable def alm (t:TA):TE:=λσ H Q=>t σ H λxs H1=>xs.length<=sizeLine/\∀p,H1 p=none->Q (.ref p) (bF H1 p (.bM xs))
theorem Zx {x1}(h:PA X es t):PE X (.Tuple es x1 pos) (alk t):=by
 intro ah s σ H Q I hq;refine wpAny_Tuple_spliced (cQ (h pos ah s σ H _ I hq) λus s1 ⟨xs,H1,I1,r,z,q⟩=>⟨by rw[<-r.length];exact z,?_⟩)
 have hf:H1 s1.heap.objs.size=none:=I1.b_.fresh (zah _)
 refine⟨.ref s1.heap.objs.size,bF H1 s1.heap.objs.size (.gE xs),I1.jF (t':=s1.toks) (λb u e=>zac _ e) (zah _) ?_,rfl,q _ hf⟩
 exact⟨z,us,r,⟨_,zap _ rfl,rfl,_,rfl⟩⟩
theorem KZ (h:PA X es t):PE X (.List es pos) (alm t):=by
 intro ah s σ H Q I hq;refine wpAny_List_spliced (cQ (h pos ah s σ H _ I hq) λus s1 ⟨xs,H1,I1,r,z,q⟩=>⟨by rw[<-r.length];exact z,?_⟩)
 have hf:H1 s1.heap.objs.size=none:=I1.b_.fresh (zah _)
 refine⟨.ref s1.heap.objs.size,bF H1 s1.heap.objs.size (.bM xs),I1.jF (t':=s1.toks) (λb u e=>zac _ e) (zah _) ?_,rfl,q _ hf⟩
 exact⟨z,us,0,r,zap _ rfl⟩
noncomputable abbrev Sp:=List V->Hp->VK->XK->Prop
noncomputable abbrev AM:=List Env->Hp->Shared->XK->Value->Shared->Prop
structure DF (P:Program) (w:World) (K:PySem.W.Frag) (mg:Str->Option Value) (base:Heap) (A:Around) (outer:List Env) (s:Shared) (H:Hp):Prop where
 frames:A.frames=some outer
 sH:Mod K mg base
 bs:∀b o,base.get? b=some o->s.heap.get? b=some o/\H b=none
 Qj:base.objs.size<=s.heap.objs.size
 j9:s.heap.FunFrames base outer
 Ku:∀b∈rP outer,H b=none
 b_:mS P w H s.heap
 g5:AllBare s.gens
noncomputable def CE (outer:List Env)(P:Program)(w:World)(H:Hp)(s:Shared)(Q:VK)(u:Value)(s':Shared):Prop:=
 ∃v H',s'.os=s.os/\AllBare s'.gens/\Un (rP outer) [] H H' s.heap s'.heap/\mS P w H' s'.heap/\bI v u/\Q v H'
noncomputable def CR (CX:AM)(outer:List Env)(P:Program)(w:World)(H:Hp)(s:Shared)(Q:VK)(E:XK)(r:Result)(s':Shared):Prop:=
 match r with
 |.ok (.ret u)=>CE outer P w H s Q u s'
 |.ok _=>False
 |.error e=>CX outer H s E e s'
structure aN (P:Program) (w:World) (K:PySem.W.Frag) (mg:Str->Option Value) (base:Heap) (CX:AM) (k:Nat) (f:Addr) (fd:FuncData) (ps:List Str) (sp:Sp):Prop where
 len:∀vs H Q E,sp vs H Q E->vs.length=ps.length
 kj:∀(A:Around) (outer:List Env) (s:Shared) (H:Hp) (args:Args) (us:List Value) (vs:List V) (Q:VK) (E:XK),gH k A->DF P w K mg base A outer s H->BindsTo s fd args (ps.zip us)->bL vs us->sp vs H Q E ->
  codeAny (model P w) A (.call (.ref f) args) (CR CX outer P w H s Q E) s
theorem aN.imp {P:Program}{w:World}{K:PySem.W.Frag}{mg:Str->Option Value}{base:Heap}{CX:AM}{k:Nat}{f:Addr}{fd:FuncData}{ps:List Str}{sp sp':Sp}(F:aN P w K mg base CX k f fd ps sp)
  (h:∀vs H Q E,sp' vs H Q E->sp vs H Q E):aN P w K mg base CX k f fd ps sp':=
 ⟨λvs H Q E q=>F.len vs H Q E (h _ _ _ _ q),λA outer s H args us vs Q E hr he hb hv hs=>F.kj A outer s H args us vs Q E hr he hb hv (h _ _ _ _ hs)⟩
theorem DF.KY {P:Program}{w:World}{K:PySem.W.Frag}{mg:Str->Option Value}{base:Heap}{A:Around}{outer:List Env}{s:Shared}{H:Hp}(e:DF P w K mg base A outer s H)(C:Addr)(us:List Value)(kw:List (Str×Value)):
  DF P w K mg base (A.under (.builtin "type.__call__" ⟨.ref C::us,kw⟩)) outer s H:=⟨by first|exact e.frames | (simpa[Around.under,Code.envs,Code.isFrame,af5] using e.frames),e.sH,e.bs,e.Qj,e.j9,e.Ku,e.b_,e.g5⟩
theorem aL.yV (I:aL X ah σ H s):DF X.prog X.w X.K X.mg X.base X.A X.c_ s H:=
 ⟨I.ok.frames,I.ok.sH,I.bs,zai I.ok.Qj I.sz,I.c_,I.FA,I.b_,I.g5⟩
theorem aL.after (I:aL X ah σ H s)(h:CE X.c_ X.prog X.w H s Q u s'):EP X ah σ Q u s':=by
 obtain⟨v,H',os,g5,un,b_,r,q⟩:=h;obtain⟨hh,g,d,t,os'⟩:=s';obtain rfl:os'=s.os:=os
 exact⟨v,H',I.call (h':=hh) (g':=g) (d':=d) (t':=t) (ch:=[]) un b_ g5 (λb z=>absurd z (by simp)),r,q⟩
noncomputable def Vb (sp:Sp)(mU:List V)(E:XK)(t:TA):TE:=λσ H Q=>t σ H λvs H1=>sp (vs++mU) H1 Q E
noncomputable def FO (C:Addr)(m:Str)(sp:Sp)(mU:List V)(E:XK)(ta:TE)(t:TA):TE:=λσ H Q=>ta σ H λx H1=>∃a dx fs,x = .ref a/\H1 a=some (.dZ C dx fs)/\fs.lookup m=none /\
 t σ H1 λvs H2=>sp (x::(vs++mU)) H2 Q E
noncomputable def Vc (C:Addr)(sp:Sp)(mU:List V)(E:XK)(t:TA):TE:=λσ H Q=>t σ H λvs H1=>∀x dx,H1 x=none->H1 dx=none->dx≠x ->
 sp (.ref x::(vs++mU)) (bF (bF H1 dx (.sD x)) x (.dZ C dx [])) (λv H2=>v = .br/\Q (.ref x) H2) E
noncomputable def d8 (K:PySem.W.Frag)(fd:FuncData)(ps:List Str)(ds:List Value):Prop:=
 ∀(s:Shared) (us:List Value),K.In s.heap->(us++ds).length=ps.length->BindsTo s fd ⟨us,[]⟩ (ps.zip (us++ds))
theorem d8.all {K:PySem.W.Frag}{fd:FuncData}{ps:List Str}(h:∀us:List Value,us.length=ps.length->bindArgs fd ⟨us,[]⟩=pure (ps.zip us)):d8 K fd ps []:=λs us _ hl=>by
 rw[zaw] at hl ⊢
 exact .of_eq (h us hl)
noncomputable def fB (CX:AM)(X:Cx)(E:XK):Prop:=∀(ah:List (Addr×Obj)) (σ:St) (H:Hp) (s:Shared) (e:Value) (s':Shared),aL X ah σ H s->CX X.c_ H s E e s'->X.xe e s'
section
variable {X:Cx}{CX:AM}{k:Nat}{f C:Addr}{fd:FuncData}{ps:List Str}{sp:Sp}{mU:List V}{ds:List Value}{E:XK}{x m:Str}{p pos eY:Pos}{e o:Expr}{es:List Expr}{ta:TE}{t:TA}
theorem DG (F:aN X.prog X.w X.K X.mg X.base CX k f fd ps sp)(hr:gH k X.A)(hb:d8 X.K fd ps ds)(hd:bL mU ds)(hx:fB CX X E)
  (I:aL X ah σ H s) (r:bL vs us) (h:sp (vs++mU) H Q E):wpAny (model X.prog X.w) X.A (call (.ref f) us) (EP X ah σ Q) X.xe s:=by
 have r2:bL (vs++mU) (us++ds):=r.lU hd
 have hl:(us++ds).length=ps.length:=by rw[<-r2.length];exact F.len _ _ _ _ h
 refine zcD (zcw (F.kj X.A X.c_ s H ⟨us,[]⟩ (us++ds) (vs++mU) Q E hr I.yV (hb s us I.jH hl) r2 h) λr s' hq=>?_)
 cases r with
 |error e=>exact hx ah σ H s e s' I hq
 |ok fl =>
  cases fl with
  |ret u=>exact I.after hq
  |next=>exact False.elim hq
  |brk=>exact False.elim hq
  |cont=>exact False.elim hq
theorem QW (F:aN X.prog X.w X.K X.mg X.base CX k f fd ps sp)(hr:gH k X.A)(hg:Gl X x)(hm:X.mg x=some (.ref f))(hk:PySem.W.keepIn X.K (.ref f)=true)(hb:d8 X.K fd ps ds)(hd:bL mU ds)(hx:fB CX X E)
  (ha:PA X (e::es) t) (sS:autoParam ((x == ("__debug__" : Str))=false) zp_1) (he:autoParam (starEach (e::es) X.env=(false,eval e X.env)::starEach es X.env) zp_0) (hpl:autoParam ((backTo pos (starEach es X.env)).any (·.1)=false) zp_0):
  PE X (.Call (.Name x p) (e::es) [] pos) (Vb sp mU E t):=by
 intro ah s σ H Q I h;refine zcc (mT I hg hm ?_ sS)
 refine zcx (h₀:= X.base) I.ok.sH.YW hk (cQ (ha pos ah s σ H _ I h) λus s1 ⟨vs,H1,I1,r,q⟩=>⟨I1.jH,?_⟩) he hpl
 exact DG F hr hb hd hx I1 r q
theorem FP (he:PE X o ta)(c:rS X.K C)(hm:cN X.K C m f)(F:aN X.prog X.w X.K X.mg X.base CX k f fd ps sp)(hr:gH k X.A)(hb:d8 X.K fd ps ds)(hd:bL mU ds)(hx:fB CX X E)(ha:PA X (e::es) t)
  (pQ:autoParam (starEach (e::es) X.env=(false,eval e X.env)::starEach es X.env) zp_0) (hpl:autoParam ((backTo pos (starEach es X.env)).any (·.1)=false) zp_0)
  (ht:autoParam (eval (.Call (.Attribute o m eY) (e::es) [] pos) X.env=(do
   let ov <-eval o X.env
   standAt eY.atName
   let (f,first) <-holding [ov] (getMethod ov m pl)
   callWith pos f first (backTo pos (starEach (e::es) X.env)) (backToKw pos (keywordEach [] X.env)))) zp_0):
  PE X (.Call (.Attribute o m eY) (e::es) [] pos) (FO C m sp mU E ta t):=by
 intro ah s σ H Q I h;refine zcM (pl:=pl) (cQ (he ah s σ H _ I h) λu s1 ⟨x,H1,I1,rx,a,dx,fs,ex,ea,l,q⟩=>?_) ht
 subst ex;obtain rfl:u=Value.ref a:=rx
 refine nJ I1 ea c hm l ?_
 refine zcx (first:=[.ref a]) (h₀:= X.base) I.ok.sH.YW hm.kp (cQ (ha pos ah s1 σ H1 _ I1 q) λus s2 ⟨vs,H2,I2,r,q2⟩=>⟨I2.jH,?_⟩) pQ hpl
 exact DG (us:=.ref a::us) (vs:=.ref a::vs) F hr hb hd hx I2 (.cons rfl r) q2
theorem K0 (he:PE X o ta)(c:rS X.K C)(hm:cN X.K C m f)(F:aN X.prog X.w X.K X.mg X.base CX k f fd ps sp)(hr:gH k X.A)(hb:d8 X.K fd ps ds)(hd:bL mU ds)(hx:fB CX X E)
  (ht:autoParam (eval (.Call (.Attribute o m eY) [] [] pos) X.env=(do
   let ov <-eval o X.env
   standAt eY.atName
   let (f,first) <-holding [ov] (getMethod ov m pl)
   callWith pos f first (backTo pos (starEach [] X.env)) (backToKw pos (keywordEach [] X.env)))) zp_0):
  PE X (.Call (.Attribute o m eY) [] [] pos) (FO C m sp mU E ta af3):=by
 intro ah s σ H Q I h;refine zcM (pl:=pl) (cQ (he ah s σ H _ I h) λu s1 ⟨x,H1,I1,rx,a,dx,fs,ex,ea,l,q⟩=>?_) ht
 subst ex;obtain rfl:u=Value.ref a:=rx
 refine nJ I1 ea c hm l ?_
 exact PySem.W.callWith_K0 (first:=[.ref a]) I1.jH hm.kp (DG (us:=[.ref a]) (vs:=[.ref a]) F hr hb hd hx I1 (.cons rfl .nil) q)
structure Mk (K:PySem.W.Frag) (C f:Addr):Prop where
 af6:PySem.W.makesIn K C=true
 init:PySem.W.findIn K (.ref C) "__init__"=some (some (.ref f))
 fn:PySem.W.isFn K (.ref f)=true
 kp:PySem.W.keepIn K (.ref C)=true
theorem K1 (M:Mk X.K C f)(F:aN X.prog X.w X.K X.mg X.base CX k f fd ps sp)(hr:gH (k+1) X.A)(hb:d8 X.K fd ps ds)(hd:bL mU ds)
  (hx:fB CX X E) (I:aL X ah σ H s) (r:bL vs us)
  (h:∀x dx,H x=none->H dx=none->dx≠x->sp (.ref x::(vs++mU)) (bF (bF H dx (.sD x)) x (.dZ C dx [])) (λv H2=>v = .br/\Q (.ref x) H2) E):
  wpAny (model X.prog X.w) X.A (call (.ref C) us) (EP X ah σ Q) X.xe s:=by
 have hq:=h (s.heap.objs.size+1) s.heap.objs.size (I.b_.fresh (zbb _)) (I.b_.fresh (zah _)) (zar (zbi _))
 have I2:=aL.made (C:=C) I
 have r2:bL (V.ref (s.heap.objs.size+1)::(vs++mU)) (Value.ref (s.heap.objs.size+1)::(us++ds)):=.cons rfl (r.lU hd)
 have hl:(Value.ref (s.heap.objs.size+1)::us++ds).length=ps.length:=by
  have e:=r2.length;rw[F.len _ _ _ _ hq] at e;exact e.symm
 refine zcD (KW (f:=f) I.jH M.af6 M.init (beq_iff_eq.mp M.fn) (zcw (F.kj _ X.c_ _ _ ⟨Value.ref (s.heap.objs.size+1)::us,[]⟩ (Value.ref (s.heap.objs.size+1)::(us++ds)) _ _ E (hr.KY C us [])
  (I2.yV.KY C us []) (hb _ (Value.ref (s.heap.objs.size+1)::us) I2.jH hl) r2 hq) λr s' K2=>?_))
 cases r with
 |error e=>exact hx ah σ _ _ e s' I2 K2
 |ok fl =>
  cases fl with
  |ret u =>
   obtain⟨v,H',I3,rv,ev,q3⟩:=I2.after K2;subst ev;exact⟨rv,⟨V.ref (s.heap.objs.size+1),H',I3,rfl,q3⟩⟩
  |next=>exact False.elim K2
  |brk=>exact False.elim K2
  |cont=>exact False.elim K2
theorem QX (M:Mk X.K C f)(F:aN X.prog X.w X.K X.mg X.base CX k f fd ps sp)(hr:gH (k+1) X.A)(hg:Gl X x)(hm:X.mg x=some (.ref C))(hb:d8 X.K fd ps ds)(hd:bL mU ds)(hx:fB CX X E)
  (ha:PA X (e::es) t) (sS:autoParam ((x == ("__debug__" : Str))=false) zp_1) (he:autoParam (starEach (e::es) X.env=(false,eval e X.env)::starEach es X.env) zp_0) (hpl:autoParam ((backTo pos (starEach es X.env)).any (·.1)=false) zp_0):
  PE X (.Call (.Name x p) (e::es) [] pos) (Vc C sp mU E t):=by
 intro ah s σ H Q I h;refine zcc (mT I hg hm ?_ sS)
 refine zcx (h₀:= X.base) I.ok.sH.YW M.kp (cQ (ha pos ah s σ H _ I h) λus s1 ⟨vs,H1,I1,r,q⟩=>⟨I1.jH,?_⟩) he hpl
 exact K1 M F hr hb hd hx I1 r q
end
section
variable {X:Cx}{CX:AM}{k:Nat}{f C:Addr}{fd:FuncData}{ps ks:List Str}{sp:Sp}{E:XK}{x m:Str}{p pos eY ap1:Pos}{e o:Expr}{es:List Expr}{kws:List Keyword}{te ta:TE}{t tk:TA}{nm:Option Str}
end
structure aq (N P:List Str) (sc:Scope):Prop where
 kind:sc.kind = .function
 co:sc.isCoroutine=false
 gen:sc.isGenerator=false
 nd:N.Nodup
 pre:N.take P.length=P
 par:∀x∈P,sc.names.lookup x=some .local\/sc.names.lookup x=some .cell
 Zy:∀y∈sc.names,y.2 ≠ .free
theorem wG {kindOf:Str->Option NameKind}{x:Str}:∀{qL:List (Str×Value)} {m:Str->Option Value},(∀v,(x,v)∉qL)->bindL kindOf qL m x=m x
 |[],_,_=>rfl
 | (n,v)::r,m,h=>by
  unfold bindL;rw[wG λw hw=>h w (zaO _ hw)]
  split
  ·have:x≠n:=by rintro rfl;exact h v zbJ
   simp[this]
  ·rfl
theorem wH {kindOf:Str->Option NameKind}{x:Str}:∀{qL:List (Str×Value)} {m:Str->Option Value},(∀v,(x,v)∉qL)->bindC kindOf qL m x=m x
 |[],_,_=>rfl
 | (n,v)::r,m,h=>by
  unfold bindC;rw[wH λw hw=>h w (zaO _ hw)]
  split
  ·rfl
  ·have:x≠n:=by rintro rfl;exact h v zbJ
   simp[this]
theorem wI {kindOf:Str->Option NameKind}{x:Str}{v:Value}:∀{P:List Str} {vs:List Value} {i:Nat} {m:Str->Option Value},P.Nodup->P[i]? = some x->vs[i]? = some v->kindOf x=some .local ->
  bindL kindOf (P.zip vs) m x=some v
 |[],_,_,_,_,h,_,_=>by simp at h
 |_::_,[],_,_,_,_,h,_=>by simp at h
 |p::P,w::vs,0,m,nd,h1,h2,hk=>by
  simp at h1 h2;subst h1;subst h2
  show bindL kindOf ((p,w)::P.zip vs) m p=_
  unfold bindL;rw[wG λv hv=>(zby.mp nd).1 (zdH hv).1,if_pos hk]
  simp
 |p::P,w::vs,i+1,m,nd,h1,h2,hk=>by
  show bindL kindOf ((p,w)::P.zip vs) m x=_
  unfold bindL;exact wI (i:=i) (zby.mp nd).2 (by simpa using h1) (by simpa using h2) hk
theorem wJ {kindOf:Str->Option NameKind}{x:Str}{v:Value}:∀{P:List Str} {vs:List Value} {i:Nat} {m:Str->Option Value},P.Nodup->P[i]? = some x->vs[i]? = some v->kindOf x≠some .local ->
  bindC kindOf (P.zip vs) m x=some v
 |[],_,_,_,_,h,_,_=>by simp at h
 |_::_,[],_,_,_,_,h,_=>by simp at h
 |p::P,w::vs,0,m,nd,h1,h2,hk=>by
  simp at h1 h2;subst h1;subst h2
  show bindC kindOf ((p,w)::P.zip vs) m p=_
  unfold bindC;rw[wH λv hv=>(zby.mp nd).1 (zdH hv).1,if_neg hk]
  simp
 |p::P,w::vs,i+1,m,nd,h1,h2,hk=>by
  show bindC kindOf ((p,w)::P.zip vs) m x=_
  unfold bindC;exact wJ (i:=i) (zby.mp nd).2 (by simpa using h1) (by simpa using h2) hk
noncomputable def dg (N:List Str)(vs:List V):St:=vs.map some++List.replicate (N.length - vs.length) none
noncomputable def ic (CX:AM)(P:Program)(w:World)(K:PySem.W.Frag)(mg:Str->Option Value)(base:Heap)(N:List Str)(bW:Str)(scope:Scope)(f:Addr)(cd:Value)(A:Around)(outer:List Env)(s:Shared)(H:Hp)(E:XK):Cx where
 prog:=P
 w:=w
 K:=K
 mg:=mg
 base:=base
 A:=A.deeper (envOfC bW scope s.heap.objs.size f cd)
 N:=N
 s₀:= s
 H₀:= H
 env:=envOfC bW scope s.heap.objs.size f cd
 outer:=outer
 c_:=envOfC bW scope s.heap.objs.size f cd::outer
 ex:=[]
 fX:=true
 fn:=λ_=>true
 pn:=[]
 xe:=λe s'=>wpAny (model P w) (A.deeper (envOfC bW scope s.heap.objs.size f cd)) (leaving (envOfC bW scope s.heap.objs.size f cd) e) (λ_ s''=>CX outer H s E e s'') (λe' s''=>CX outer H s E e' s'') s'
theorem AN {sc:Scope}{n:Nat}{x:Str}(h:sc.names.lookup x=some .cell):∃c,(cellsFrom n sc.names []).lookup x=some c:=by
 have q:=zdO sc.names n [] (.inl h)
 exact zbR.mp q
theorem Ik {CX:AM}{P:Program}{w:World}{K:PySem.W.Frag}{mg:Str->Option Value}{base:Heap}{N ps:List Str}{bW:Str}{scope:Scope}{f:Addr}{cd:Value}{A:Around}{outer:List Env}{s s1:Shared}{H:Hp}{E:XK}{us:List Value}{vs:List V}
  (S:aq N ps scope) (hd:A.handled=none) (e0:DF P w K mg base A outer s H) (hl:vs.length=ps.length) (r:bL vs us)
  (x:InCallC s s.heap.objs.size (bindL (envOfC bW scope s.heap.objs.size f cd).kindOf (ps.zip us) λ_=>none) (cellsFrom (s.heap.objs.size+1) scope.names []) (bindC (envOfC bW scope s.heap.objs.size f cd).kindOf (ps.zip us) λ_=>none) s1):
  aL (ic CX P w K mg base N bW scope f cd A outer s H E) [] (dg N vs) H s1:=by
 have hpl:ps.length<=N.length:=by have:=congrArg List.length S.pre;rw[zbj] at this;omega
 obtain⟨h1,tk,rfl,hk⟩:=x.done;have noA:∀b:Addr,b∉(ic CX P w K mg base N bW scope f cd A outer s H E).ex:=λb z=>absurd (show b∈([]:List Addr) from z) (by simp)
 refine⟨⟨e0.sH,S.kind,rfl,rfl,zah _,λy z c h1 h2=>?_,λy hy=>?_,λy c _ h=>?_,λ_=>hd,Around.frames_deeper e0.frames,.inr ⟨rfl,rfl⟩,λb z=>absurd z (noA b),e0.bs,e0.Qj,λb _ _=>noA b,λb z=>absurd z (noA b),e0.j9,e0.Ku⟩,
  rfl,e0.g5,Un.gZ hk,⟨_,x.toInCall.ns,λi y v h1 h2 h3=>?_⟩,λy c h=>⟨_,x.cell y c h⟩,e0.b_.fresh (zah _),λy c h=>?_,λp hp=>absurd (show p∈([]:List (Addr×Obj)) from hp) (by simp),e0.b_.gZ hk,?_⟩
 ·exact name_of_addr x.apart (zaW h1) (zaW h2)
 ·have hy:scope.names.lookup y=some .cell\/scope.names.lookup y=some .free:=hy
  rcases hy with hy|hy
  ·exact AN hy
  ·exact absurd rfl (S.Zy _ (zaW hy))
 ·exact zen (x.above y c (zaW h))
 ·have hi:i<vs.length:=by
   unfold dg at h2;by_cases hi:i<vs.length
   ·exact hi
   ·rw[zat (by simpa using hi)] at h2
    rw[zcF] at h2;split at h2<;>cases h2
  have ha:vs[i]? = some v:=by
   unfold dg at h2;rw[zaj (by simpa using hi),zaq] at h2
   cases e:vs[i]? with
   |none=>rw[e] at h2;cases h2
   |some a=>rw[e] at h2;cases h2;rfl
  obtain⟨u,hu,rv⟩:=r.get ha;have hp:ps[i]? = some y:=by
   rw[<-S.pre,zbz (by omega)];exact h1
  have ndP:ps.Nodup:=by rw[<-S.pre];exact S.nd.sublist (List.take_sublist _ _)
  refine⟨u,rv,?_⟩
  rcases S.par y (zaV hp) with k|k
  ·exact .inl ⟨k,wI ndP hp hu k⟩
  ·obtain⟨c,e⟩:=AN (n:=s.heap.objs.size+1) k
   refine .inr ⟨.inl k,c,e,?_⟩
   have q:=x.cell y c e;rw[wJ ndP hp hu (by show scope.names.lookup y≠_;rw[k];decide)] at q
   exact q
 ·exact e0.b_.fresh (zen (x.above y c (zaW h)))
 ·unfold dg
  show _=N.length
  rw[zag,zae,List.length_replicate];omega
theorem K3 {CX:AM}{P:Program}{w:World}{K:PySem.W.Frag}{mg:Str->Option Value}{base:Heap}{k:Nat}{f:Addr}{name bW:Str}{params:Arguments}{body:List Stmt}{scope:Scope}{dV kV nK pm eZ ct oc:Value}{an od:Option Addr}
  {DH:Array (Option Value)} {N ps:List Str} {sp:Sp} (lk:K.lookup f=some ⟨oc,od,.func (PySem.W.fnOf name bW params body scope dV kV nK pm an eZ ct),DH⟩) (AI:PySem.W.codeIn K eZ bW=true) (S:aq N ps scope)
  (len:∀vs H Q E,sp vs H Q E->vs.length=ps.length)
  (sU:∀(A:Around) (outer:List Env) (s:Shared) (H:Hp) (vs:List V) (Q:VK) (E:XK),gH k (A.deeper (envOfC bW scope s.heap.objs.size f eZ))->sp vs H Q E ->
   ∃t,wC (ic CX P w K mg base N bW scope f eZ A outer s H E) body t/\t {nx:=λ_ H'=>Q .br H',rt:=Q} (dg N vs) H):
  aN P w K mg base CX (k+1) f (PySem.W.fnOf name bW params body scope dV kV nK pm an eZ ct) ps sp:=by
 refine⟨len,λA outer s H args us vs Q E hr e0 hb r Kd=>?_⟩
 have hl:=len _ _ _ _ Kd;have KX:K.In s.heap:=e0.sH.YW.keeps λb o e=>(e0.bs b o e).1
 have lim:s.heap.NoLimit:=e0.sH.nolimit.keeps λb o e=>(e0.bs b o e).1
 have FQ:∀y∈ps.zip us,scope.names.lookup y.1=some .local\/(scope.names.lookup y.1=some .cell/\((cellsFrom (s.heap.objs.size+1) scope.names []).lookup y.1).isSome=true):=λ⟨n,v⟩ hy=>by
  rcases S.par n (zdH hy).1 with q|q
  ·exact .inl q
  ·exact .inr ⟨q,zdO _ _ _ (.inl q)⟩
 refine codeAny_call_function hr.depth (KX _ _ lk) rfl S.co S.gen rfl (PySem.W.codeRec_of KX AI) (hb _ _ _ _ ?_)
 refine wpAny_newFunctionEnv_cells S.kind FQ λenv he s1 x=>?_
 subst he;refine⟨lim.keeps x.toInCall.keep,codeAny_func ?_⟩
 obtain⟨t,ht,hq⟩:=sU A outer s H vs Q E (hr.deeper _) Kd
 have I:aL (ic CX P w K mg base N bW scope f eZ A outer s H E) [] (dg N vs) H s1:=Ik S hr.hd e0 hl r x
 refine zaH (ht [] s1 (dg N vs) H _ I hq) (λfl s' hs=>?_) λe s' hs=>hs
 have eO:∀{d7:St} {H':Hp} {v:V} {u:Value},aL (ic CX P w K mg base N bW scope f eZ A outer s H E) [] d7 H' s'->bI v u->Q v H'->CE outer P w H s Q u s':=
  λ{d7 H' v u} J rv q=>⟨v,H',J.os,J.g5,J.base,J.b_,rv,q⟩
 cases fl with
 |ret u =>
  obtain⟨v,d7,H',J,rv,q⟩:=hs;exact eO J rv q
 |next =>
  obtain⟨d7,H',J,q⟩:=hs;exact eO (v:=V.br) (u:=Value.none) J rfl q
 |brk =>
  obtain⟨_,_,_,q⟩:=hs;exact False.elim q
 |cont =>
  obtain⟨_,_,_,q⟩:=hs;exact False.elim q
section
variable {X:Cx}{x:Str}{p pos:Pos}{e:Expr}{es:List Expr}{t:TA}{id T:String}{r:List V->Hp->VK->Prop}
noncomputable def tCB (r:List V->Hp->VK->Prop)(t:TA):TE:=λσ H Q=>t σ H λvs H1=>r vs H1 Q
theorem AO (hc:jJ X (.builtin id) r)(hg:Gl X x)(hm:X.mg x=none)(hv:bootBuiltins x=some (.builtin id))(ha:PA X (e::es) t)(hn:autoParam (x ≠ "__name__") zp_1)(sS:autoParam ((x == ("__debug__" : Str))=false) zp_1)
  (he:autoParam (starEach (e::es) X.env=(false,eval e X.env)::starEach es X.env) zp_0) (hpl:autoParam ((backTo pos (starEach es X.env)).any (·.1)=false) zp_0):PE X (.Call (.Name x p) (e::es) [] pos) (tCB r t):=by
 intro ah s σ H Q I h;refine zcc (sM I hg hm hv ?_ hn sS)
 exact PyProof.Rows.callWith_builtin1 (cQ (ha pos ah s σ H _ I h) λus s1 ⟨vs,H1,I1,r1,q1⟩=>hc ah s1 σ H1 vs us Q I1 r1 q1) he hpl
theorem Il (hc:jJ X (.type T) r)(hg:Gl X x)(hm:X.mg x=none)(hv:bootBuiltins x=some (.type T))(ha:PA X (e::es) t)(hn:autoParam (x ≠ "__name__") zp_1)(sS:autoParam ((x == ("__debug__" : Str))=false) zp_1)
  (he:autoParam (starEach (e::es) X.env=(false,eval e X.env)::starEach es X.env) zp_0) (hpl:autoParam ((backTo pos (starEach es X.env)).any (·.1)=false) zp_0):PE X (.Call (.Name x p) (e::es) [] pos) (tCB r t):=by
 intro ah s σ H Q I h;refine zcc (sM I hg hm hv ?_ hn sS)
 exact zck (cQ (ha pos ah s σ H _ I h) λus s1 ⟨vs,H1,I1,r1,q1⟩=>hc ah s1 σ H1 vs us Q I1 r1 q1) he hpl
end
section
variable {κ:Type}[DecidableEq κ]
noncomputable def lM (aO:List (κ × V))(k:κ):Option V:=(aO.find? λkv=>decide (kv.1=k)).map (·.2)
noncomputable def ko (aO:List (κ × V))(k:κ)(v:V):List (κ × V):=
 if (aO.any λkv=>decide (kv.1=k))=true then aO.map (λkv=>if kv.1=k then (kv.1,v) else kv) else aO++[(k,v)]
theorem oE {p:κ × V}{r:List (κ × V)}{k:κ}(e:p.1=k):lM (p::r) k=some p.2:=by simp[lM,zcd,e]
theorem oF {p:κ × V}{r:List (κ × V)}{k:κ}(e:¬ p.1=k):lM (p::r) k=lM r k:=by simp[lM,zcd,e]
theorem AQ (k:κ):∀aO:List (κ × V),(aO.any λkv=>decide (kv.1=k))=(lM aO k).isSome
 |[]=>rfl
 |p::r=>by
  rw[zcb];by_cases e:p.1=k
  ·simp only[oE e,decide_eq_true e,Bool.true_or,zeq]
  ·rw[oF e,decide_eq_false e,Bool.false_or];exact AQ k r
theorem lZ (aO:List (κ × V))(k:κ)(v:V):(ko aO k v).length<=aO.length+1:=by
 unfold ko;split
 ·rw[zae];omega
 ·rw[zag,zaB,zbM];omega
theorem iG.jL (r:iG o u):o.isSome=u.isSome:=by
 cases o with
 |none=>cases u with
  |none=>rfl
  |some _=>exact (show False from r).elim
 |some _=>cases u with
  |none=>exact (show False from r).elim
  |some _=>rfl
theorem iG.getD (r:iG o u)(rd:bI d d'):bI (o.getD d) (u.getD d'):=by
 cases o with
 |none=>cases u with
  |none=>exact rd
  |some _=>exact (show False from r).elim
 |some _=>cases u with
  |none=>exact (show False from r).elim
  |some _=>exact r
theorem KV.val {aO:List (κ × V)}{vs:List (κ × Value)}(r:KV aO vs)(k:κ):iG (lM aO k) (valueAt vs k):=by
 unfold KV at r;induction r with
 |nil=>exact True.intro
 | @cons p q ps qs h t ih =>
  obtain⟨h1,h2⟩:=h;by_cases e:p.1=k
  ·have e':q.1=k:=h1.symm.trans e
   have b:valueAt (q::qs) k=some q.2:=by simp[valueAt,zcd,e']
   rw[oE e,b];exact h2
  ·have e':¬ q.1=k:=λz=>e (h1.trans z)
   have b:valueAt (q::qs) k=valueAt qs k:=by simp[valueAt,zcd,e']
   rw[oF e,b];exact ih
theorem KV.any (r:KV aO vs)(k:κ):(aO.any λkv=>decide (kv.1=k))=vs.any λkv=>decide (kv.1=k):=by
 unfold KV at r;induction r with
 |nil=>rfl
 |cons h t ih=>rw[zcb,zcb,ih,h.1]
theorem KV.Zz (r:KV aO vs)(k:κ)(ry:bI y u):
  KV (aO.map λkv=>if kv.1=k then (kv.1,y) else kv) (vs.map λkv=>if kv.1=k then (kv.1,u) else kv):=by
 unfold KV at r ⊢
 induction r with
 |nil=>exact .nil
 | @cons p q ps qs h t ih =>
  rw[zas,zas];refine .cons ?_ ih
  obtain⟨h1,h2⟩:=h;by_cases e:p.1=k
  ·rw[if_pos e,if_pos (h1.symm.trans e)];exact⟨h1,ry⟩
  ·rw[if_neg e,if_neg (λz=>e (h1.trans z))];exact⟨h1,h2⟩
theorem KV.DI (r:KV aO vs)(k:κ)(ry:bI y u):KV (ko aO k y) (stored vs k u):=by
 unfold ko stored;rw[r.any k];by_cases e:(vs.any λkv=>decide (kv.1=k))=true
 ·rw[if_pos e,if_pos e];exact r.Zz k ry
 ·rw[if_neg e,if_neg e];exact Paired.snoc r ⟨rfl,ry⟩
theorem KV.pT {aO:List (κ × V)}{vs:List (κ × Value)}(r:KV aO vs):aO.map (·.1)=vs.map (·.1):=by
 unfold KV at r;induction r with
 |nil=>rfl
 |cons h t ih=>rw[zas,zas,ih,h.1]
theorem KV.length (r:KV aO vs):aO.length=vs.length:=Paired.length r
end
theorem qM (r:bI (kV k) u):(bX P w).is k u=true:=by
 cases k with
 |inl i=>obtain⟨t,e⟩:=(show ∃t,u=Value.int i t from r);subst e;exact AD P w i t
 |inr x=>obtain⟨t,e⟩:=(show ∃t,u=Value.str x t from r);subst e;exact AE P w x t
theorem wK:∀{ks:List dI} {us:List Value},bL (ks.map kV) us->ItemsAre (bX P w) ks us
 |[],_,r=>by rw[zbK] at r;cases r;exact .nil
 |k::ks,_,r=>by
  rw[zas] at r;cases r with
  |cons h t=>exact .cons (qM h) (wK t)
noncomputable abbrev KT (H:Hp):List (List dI×V)->List (List dI×Addr×Value)->Prop:=Paired λp q=>p.1=q.1/\H q.2.1=some (.gE (p.1.map kV))/\bI p.2 q.2.2
theorem KT.val (r:KT H aO xs)(k:List dI):iG (lM aO k) ((atKey xs k).map (·.2)):=by
 induction r with
 |nil=>exact True.intro
 | @cons p q ps qs h t ih =>
  obtain⟨h1,_,h2⟩:=h;by_cases e:p.1=k
  ·have e':q.1=k:=h1.symm.trans e
   have b:atKey (q::qs) k=some q.2:=by simp[atKey,zcd,e']
   rw[oE e,b];exact h2
  ·have e':¬ q.1=k:=λz=>e (h1.trans z)
   have b:atKey (q::qs) k=atKey qs k:=by simp[atKey,zcd,e']
   rw[oF e,b];exact ih
theorem KT.Zz (r:KT H aO xs)(k:List dI)(ry:bI y u):
  KT H (aO.map λkv=>if kv.1=k then (kv.1,y) else kv) (xs.map (putAt k u)):=by
 induction r with
 |nil=>exact .nil
 | @cons p q ps qs h t ih =>
  rw[zas,zas];refine .cons ?_ ih
  obtain⟨h1,h2,h3⟩:=h;unfold putAt;by_cases e:p.1=k
  ·rw[if_pos e,if_pos (h1.symm.trans e)];exact⟨h1,h2,ry⟩
  ·rw[if_neg e,if_neg (λz=>e (h1.trans z))];exact⟨h1,h2,h3⟩
theorem KT.DI (r:KT H aO xs)(k:List dI)(hb:H b=some (.gE (k.map kV)))(ry:bI y u):
  KT H (ko aO k y) (storedH xs k b u):=by
 have e:(aO.any λkv=>decide (kv.1=k))=(atKey xs k).isSome:=by
  rw[AQ,(r.val k).jL,zdr]
 unfold ko storedH;rw[e];by_cases q:(atKey xs k).isSome=true
 ·rw[if_pos q,if_pos q];exact r.Zz k ry
 ·rw[if_neg q,if_neg q];exact Paired.snoc r ⟨rfl,hb,ry⟩
theorem KT.keeps (r:KT H aO xs)(ht:∀b ys,H b=some (.gE ys)->H' b=some (.gE ys)):KT H' aO xs:=
 Paired.YU r λ_ _ z=>⟨z.1,ht _ _ z.2.1,z.2.2⟩
theorem Vd (ok:mS P w H h)(e:Rd H a u):cD P w H h a u:=e.ok ok
theorem qN (ok:mS P w H h)(e:Rd H a (.dK aO)):aO.length<=sizeLine/\(a == sysModules)=false/\∃vs,KV aO vs/\h.DictOf (bX P w) a vs:=
 show cD P w H h a (.dK aO) from Vd ok e
theorem Ve (ok:mS P w H h)(e:H a=some (.dK aO)):aO.length<=sizeLine/\(a == sysModules)=false/\∃vs,KV aO vs/\h.DictOf (bX P w) a vs:=qN ok (.inl e)
theorem pY (ok:mS P w H h)(e:H a=some (.gE (ks.map kV))):(tupleKind (bX P w)).is h ks a:=by
 obtain⟨_,bu,r,o,h1,h2,n,h3⟩:=(show cD P w H h a (.gE (ks.map kV)) from ok a _ e)
 exact⟨o,bu.toArray,n,h1,h2,h3,by simpa using wK r⟩
theorem sV (ok:mS P w H h)(e:Rd H a (.dT aO)):aO.length<=sizeLine/\(a == sysModules)=false /\
  ∃xs,KT H aO xs/\h.DictOfH (tupleKind (bX P w)) a xs:=by
 obtain⟨z,y,xs,r,o,es,ep,h1,h2,h3,h4,h5⟩:=(show cD P w H h a (.dT aO) from Vd ok e)
 refine⟨z,y,xs,r,o,es,ep,h1,h2,h3,h4,λx hx=>?_,h5⟩
 have all:∀{l:List (List dI×V)} {m:List (List dI×Addr×Value)},KT H l m->∀x∈m,(tupleKind (bX P w)).is h x.1 x.2.1:=by
  intro l m q;induction q with
  |nil=>intro x hx;exact nomatch hx
  | @cons p q ps qs hq t ih =>
   intro x hx;rcases zan.mp hx with e|hx
   ·subst e
    exact pY ok (by rw[<-hq.1];exact hq.2.1)
   ·exact ih x hx
 exact all r x hx
theorem af9 (ok:mS P w H h)(e:H a=some (.dT aO)):aO.length<=sizeLine/\(a == sysModules)=false /\
  ∃xs,KT H aO xs/\h.DictOfH (tupleKind (bX P w)) a xs:=sV ok (.inl e)
noncomputable def nL (H:Hp)(a:Addr)(y:V)(r:Option V):Prop:=
 (∃aO k,Rd H a (.dK aO)/\y=kV k/\r=lM aO k)\/∃aO k b,Rd H a (.dT aO)/\y = .ref b/\H b=some (.gE (k.map kV))/\r=lM aO k
noncomputable def Im (H:Hp)(a:Addr)(y v:V)(H':Hp):Prop:=
 (∃aO k,H a=some (.dK aO)/\y=kV k/\aO.length<sizeLine/\H'=bF H a (.dK (ko aO k v))) \/
 ∃aO k b,H a=some (.dT aO)/\y = .ref b/\H b=some (.gE (k.map kV))/\aO.length<sizeLine/\H'=bF H a (.dT (ko aO k v))
theorem nL.k {H:Hp}{a:Addr}{aO:List (dI×V)}{k:dI}(e:H a=some (.dK aO)):nL H a (kV k) (lM aO k):=.inl ⟨aO,k,.inl e,rfl,rfl⟩
theorem Im.k {H:Hp}{a:Addr}{aO:List (dI×V)}{k:dI}{v:V}(e:H a=some (.dK aO))(hl:aO.length<sizeLine):Im H a (kV k) v (bF H a (.dK (ko aO k v))):=.inl ⟨aO,k,e,rfl,hl,rfl⟩
theorem aL.big (I:aL X ah σ H s):sysModules<s.heap.objs.size:=by
 have h:mainGlobals<s.heap.objs.size:=(I.sH.sG.keeps I.bk).lt
 exact zdA (by decide) h
theorem Io (hu:A.units+1<cLine)(I:aL X ah σ H s)(g:nL H a y (some v))(ry:bI y u)(h:∀w' s',aL X ah σ H s'->bI v w'->Q w' s'):
  wpAny (model X.prog X.w) A (getItem (.ref a) u) Q E s:=by
 rcases g with⟨aO,k,e,ey,l⟩|⟨aO,k,b,e,ey,eb,l⟩
 ·subst ey
  obtain⟨z,hd,vs,jm,dd⟩:=qN I.b_ e;obtain⟨w',hw,DJ⟩:=iG.rQ (v:=v) (o:=valueAt vs k) (by rw[l];exact jm.val k)
  exact wpAny_getItem_of (qM ry) dd.mapOf hw (h w' _ (I.nH _) DJ)
 ·subst ey
  cases (show u=Value.ref b from ry)
  obtain⟨z,hd,xs,jm,dd⟩:=sV I.b_ e;obtain⟨w',hw,DJ⟩:=iG.rQ (v:=v) (o:=(atKey xs k).map (·.2)) (by rw[l];exact jm.val k)
  obtain⟨p,hp,hp2⟩:=zbH.mp hw;refine wpAny_getItem_heap (zce hu) (pY I.b_ eb) dd hp ?_
  rw[hp2];exact h w' _ (I.nH _) DJ
theorem alq (hu:A.units+1<cLine)(I:aL X ah σ H s)(g:nL H a y o)(ry:bI y u)(h:∀s',aL X ah σ H s'->Q (.bool o.isSome) s'):
  wpAny (model X.prog X.w) A (compareOp .In u (.ref a)) Q E s:=by
 rcases g with⟨aO,k,e,ey,l⟩|⟨aO,k,b,e,ey,eb,l⟩
 ·subst ey
  obtain⟨z,hd,vs,jm,dd⟩:=qN I.b_ e;refine wpAny_in_of (qM ry) hd dd.mapOf ?_
  rw[<-(jm.val k).jL,<-l];exact h _ (I.nH _)
 ·subst ey
  cases (show u=Value.ref b from ry)
  obtain⟨z,hd,xs,jm,dd⟩:=sV I.b_ e;refine wpAny_in_heap (zce hu) (pY I.b_ eb) hd dd ?_
  have q:=(jm.val k).jL
  rw[zdr] at q;rw[<-q,<-l];exact h _ (I.nH _)
theorem QY (hu:A.units+1<cLine)(I:aL X ah σ H s)(g:nL H a y o)(ry:bI y u)(h:∀s',aL X ah σ H s'->Q (.bool (!o.isSome)) s'):
  wpAny (model X.prog X.w) A (compareOp .NotIn u (.ref a)) Q E s:=by
 rcases g with⟨aO,k,e,ey,l⟩|⟨aO,k,b,e,ey,eb,l⟩
 ·subst ey
  obtain⟨z,hd,vs,jm,dd⟩:=qN I.b_ e;refine wpAny_notIn_of (qM ry) hd dd.mapOf ?_
  rw[<-(jm.val k).jL,<-l];exact h _ (I.nH _)
 ·subst ey
  cases (show u=Value.ref b from ry)
  obtain⟨z,hd,xs,jm,dd⟩:=sV I.b_ e;refine wpAny_notIn_heap (zce hu) (pY I.b_ eb) hd dd ?_
  have q:=(jm.val k).jL
  rw[zdr] at q;rw[<-q,<-l];exact h _ (I.nH _)
theorem yW (I:aL X ah σ H s)(mu:Mut (H a))(hs:Heap.SameBut a s.heap h')(he:∃q,h'.get? a=some q)(new:cD X.prog X.w (bF H a ob) h' a ob):
  aL X ah σ (bF H a ob) {s with heap:=h',toks:=t' }:=
 I.ji (x:=a) (e:=a) mu (.inl rfl) (λb q hb z=>(hs.2 b hb).trans z) he new
theorem K4 (z:aO.length<=sizeLine)(hd:(a == sysModules)=false)(jm:KV aO vs)(dd:h'.DictOf (bX P w) a vs):
  cD P w H' h' a (.dK aO):=⟨z,hd,vs,jm,dd⟩
theorem Ip (hu:A.units+1<cLine)(I:aL X ah σ H s)(g:Im H a y v H')(ry:bI y u)(rv:bI v r)(h:∀s',aL X ah σ H' s'->Q () s'):
  wpAny (model X.prog X.w) A (setItem (.ref a) u r) Q E s:=by
 rcases g with⟨aO,k,e,ey,l,eH⟩|⟨aO,k,b,e,ey,eb,l,eH⟩
 ·subst ey eH
  obtain⟨z,hd,vs,jm,dd⟩:=Ve I.b_ e;have hz:vs.length<=sizeLine:=by rw[<-jm.length];exact z
  have hl:(ko aO k v).length<=sizeLine:=by have:=lZ aO k v;omega
  refine wpAny_setItem_pairs (hsz:=hz) (qM ry) dd λh' Dc hs=>h _ ?_
  have he:∃q,h'.get? a=some q:=let ⟨q,_,_,hq,_⟩:=Dc;⟨q,hq⟩
  exact yW I (by rw[e];exact True.intro) hs he (K4 hl hd (jm.DI k rv) Dc)
 ·subst ey eH
  cases (show u=Value.ref b from ry)
  obtain⟨z,hd,xs,jm,dd⟩:=af9 I.b_ e;have hz:xs.length<=sizeLine:=by rw[<-Paired.length jm];exact z
  have hl:(ko aO k v).length<=sizeLine:=by have:=lZ aO k v;omega
  refine wpAny_setItem_heap (hsz:=hz) (zce hu) (pY I.b_ eb) dd λh' Dc hs=>h _ ?_
  obtain⟨q,es,ep,hq,h2,h3,h4,_,h5⟩:=Dc;refine yW I (by rw[e];exact True.intro) hs ⟨q,hq⟩ ⟨hl,hd,_,(jm.DI k eb rv).keeps λc ys ec=>?_,q,es,ep,hq,h2,h3,h4,h5⟩
  rw[au (afr ec e (λz=>nomatch z))]
  exact ec
theorem aga (I:aL X ah σ H s)(e:Rd H a (.dK aO))(h:∀t s',aL X ah σ H s'->Q (.int aO.length t) s'):wpAny (model X.prog X.w) A (call (.builtin "len") [.ref a]) Q E s:=by
 obtain⟨z,hd,vs,jm,dd⟩:=qN I.b_ e;refine call_len_dict hd dd (by rw[<-jm.length];rw[zdN] at z;omega) ?_
 rw[<-jm.length];exact h _ _ (I.nH _)
noncomputable def ZA (i:Expr):Prop:=∀ov iv,subscripted i false ov iv=operate [ov,iv] (getItem ov iv)
theorem QZ {prog:Program}{w:World}{A:Around}{E:Value->Shared->Prop}{s:Shared}{env:Env}{value slice:Expr}{pos:Pos}{T id:String}{Q:Value->Shared->Prop}
  (hl:typeLookup (.type T) "__getitem__"=pure (some (.builtin id))) (hs:ZA slice)
  (h:wpAny (model prog w) A (eval value env) (λo cM=>wpAny (model prog w) A (eval slice env) (λi lV=>lV.TypeIs o T/\wpAny (model prog w) A (getItem o i) Q E lV) E cM) E s):
  wpAny (model prog w) A (eval (.Subscript value slice pos) env) Q E s:=by
 refine Subscript_ (zaH h (λo cM Q0=>zaH Q0 (λi lV K5=>?_) λ_ _ x=>x) λ_ _ x=>x)
 obtain⟨hT,K5⟩:=K5;unfold subscriptTail;refine zaa ?_
 rw[getitemInPython_of_ne hT.not_modules];refine zaa (wpAny_specialOf hT hl ?_)
 have eO:wpAny (model prog w) A (subscripted slice false o i) (λr vY=>wpAny (model prog w) A (letTemporaryGo value o r >>= λ_=>pure r) Q E vY) E lV:=by
  rw[hs o i];exact wpAny_operating (zaH K5 (λr vY Q2=>zaa (wpAny_letTemporaryGo (zaf Q2))) λ_ _ x=>x)
 first
  |exact zaf (zaa eO)
  |exact zaa (zaf (zaa eO))
  |exact zaa eO
theorem AR (I:aL X ah σ H s)(g:nL H a y o):s.TypeIs (.ref a) "dict" := by
 rcases g with⟨aO,k,e,_,_⟩|⟨aO,k,b,e,_,_,_⟩
 ·obtain⟨_,_,vs,_,dd⟩:=qN I.b_ e
  exact dd.typeIs
 ·obtain⟨_,_,xs,_,dd⟩:=sV I.b_ e
  exact dd.typeIs
noncomputable def agb (td ty:TE):TE:=λσ H Q=>td σ H λx H1=>ty σ H1 λy H2=>∃a v,x = .ref a/\nL H2 a y (some v)/\Q v H2
noncomputable def agc (ty td:TE):TE:=λσ H Q=>ty σ H λy H1=>td σ H1 λx H2=>∃a o,x = .ref a/\nL H2 a y o/\Q (.bl o.isSome) H2
noncomputable def FT (ty td:TE):TE:=λσ H Q=>ty σ H λy H1=>td σ H1 λx H2=>∃a o,x = .ref a/\nL H2 a y o/\Q (.bl (!o.isSome)) H2
noncomputable def agd (td ty tv:TE):TS:=λD σ H=>tv σ H λv H1=>td σ H1 λx H2=>ty σ H2 λy H3=>∃a H4,x = .ref a/\Im H3 a y v H4/\D.nx σ H4
theorem Q3 (hu:X.A.units+1<cLine)(ho:PE X o td)(hi:PE X i ty)(hs:ZA i):PE X (.Subscript o i pos) (agb td ty):=by
 intro ah s σ H Q I h;refine QZ PySem.F.slot_dict_getitem.lookup hs (cQ (ho ah s σ H _ I h) λu s1 ⟨x,H1,I1,rx,q1⟩=>cQ (hi ah s1 σ H1 _ I1 q1) λiv s2 ⟨y,H2,I2,ry,a,v,ex,g,q2⟩=>?_)
 subst ex;obtain rfl:u=Value.ref a:=rx
 exact⟨AR I2 g,Io hu I2 g ry λw' s3 I3 DJ=>⟨v,H2,I3,DJ,q2⟩⟩
theorem ZC (hu:X.A.units+1<cLine)(hi:PE X i ty)(ho:PE X o td):PC X .In i o (agc ty td):=by
 intro ah s σ H Q I h;refine cQ (hi ah s σ H _ I h) λiv s1 ⟨y,H1,I1,ry,q1⟩=>cQ (ho ah s1 σ H1 _ I1 q1) λu s2 ⟨x,H2,I2,rx,a,ov,ex,g,q2⟩=>?_
 subst ex;obtain rfl:u=Value.ref a:=rx
 exact alq hu I2 g ry λs3 I3=>⟨.bl ov.isSome,H2,I3,rfl,q2⟩
theorem Iq (hu:X.A.units+1<cLine)(hi:PE X i ty)(ho:PE X o td):PC X .NotIn i o (FT ty td):=by
 intro ah s σ H Q I h;refine cQ (hi ah s σ H _ I h) λiv s1 ⟨y,H1,I1,ry,q1⟩=>cQ (ho ah s1 σ H1 _ I1 q1) λu s2 ⟨x,H2,I2,rx,a,ov,ex,g,q2⟩=>?_
 subst ex;obtain rfl:u=Value.ref a:=rx
 exact QY hu I2 g ry λs3 I3=>⟨.bl (!ov.isSome),H2,I3,rfl,q2⟩
theorem Q4 (hu:X.A.units+1<cLine)(ho:PE X o td)(hi:PE X i ty)(hv:PE X value tv)(hs:swapsWith value (some (.Subscript o i jI)) pos.line X.env=pure false):
  PS X (.Assign [.Subscript o i jI] value pos) (agd td ty tv):=by
 intro ah s σ H D I h;refine wpAny_Assign_Subscript (cQ (hv ah s σ H _ I h) λr s1 ⟨v,H1,I1,rv,q1⟩=>cQ (ho ah s1 σ H1 _ I1 q1) λu s2 ⟨x,H2,I2,rx,q2⟩=>cQ (hi ah s2 σ H2 _ I2 q2) λiv s3 ⟨y,H3,I3,ry,a,H4,ex,g,q3⟩=>?_) hs
 subst ex;obtain rfl:u=Value.ref a:=rx
 exact Ip hu I3 g ry rv λs4 I4=>⟨σ,H4,I4,q3⟩
theorem AS (h:Heap)(hb:sysModules<h.objs.size):cD P w H (h.push { cls:=.type "dict",data:=.dict #[]}) h.objs.size (.dK []):=
 ⟨zcG _,beq_eq_false_iff_ne.mpr (zbc (zar hb)),[],.nil,Heap.DictOf.new h⟩
noncomputable def ZD:TE:=λ_ H Q=>∀p,H p=none->Q (.ref p) (bF H p (.dK []))
theorem K6:PE X (.Dict [] [] pos) ZD:=λah s σ H Q I h =>
 wpAny_Dict_empty ⟨.ref s.heap.objs.size,_,I.jF (a:=s.heap.objs.size) (o:=.dK []) (t':=s.toks) (λ_ _ q=>zac _ q) (zah _) (AS s.heap I.big),rfl,h _ (I.b_.fresh (zah _))⟩
noncomputable def yX:List (TE×TE)->St->Hp->(List (V×V)->Hp->Prop)->Prop
 |[],_,H,Q=>Q [] H
 | (tk,tv)::r,σ,H,Q=>tk σ H λx H1=>tv σ H1 λy H2=>yX r σ H2 λps H3=>Q ((x,y)::ps) H3
noncomputable abbrev VV:List (V×V)->List (Value×Value)->Prop:=Paired λp q=>bI p.1 q.1/\bI p.2 q.2
noncomputable def PPs (X:Cx)(pos:Pos)(pT:List (Option Expr))(pZ:List Expr)(Vf:List (TE×TE)):Prop:=
 ∀(ah:List (Addr×Obj)) (s:Shared) (σ:St) (H:Hp) (Q:List (V×V)->Hp->Prop),aL X ah σ H s->yX Vf σ H Q ->
  wpAny (model X.prog X.w) X.A (evalPairs (pairTrees pT pZ X.env pos)) (λvs s'=>∃ps H',aL X ah σ H' s'/\VV ps vs/\Q ps H') X.xe s
theorem Q5:PPs X pos [] [] []:=λah s σ H Q I h=>pairTrees_nil_walk ⟨[],H,I,.nil,h⟩
theorem K7 (hk:PE X k tk)(hv:PE X v tv)(hr:PPs X pos ks vs Vf):
  PPs X pos (some k::ks) (v::vs) ((tk,tv)::Vf):=λah s σ H Q I h =>
 pairTrees_cons_walk (cQ (hk ah s σ H _ I h) λu s1 ⟨x,H1,I1,rx,q1⟩=>cQ (hv ah s1 σ H1 _ I1 q1) λw2 s2 ⟨y,H2,I2,ry,q2⟩ =>
  cQ (hr ah s2 σ H2 _ I2 q2) λws s3 ⟨ps,H3,I3,jm,q3⟩=>⟨(x,y)::ps,H3,I3,.cons ⟨rx,ry⟩ jm,q3⟩)
noncomputable def gm (aO jx:List (dI×V)):List (dI×V):=jx.foldl (λcA kv=>ko cA kv.1 kv.2) aO
theorem KV.AU:∀{jx:List (dI×V)} {rs:List (dI×Value)} {aO:List (dI×V)} {vs:List (dI×Value)},KV jx rs->KV aO vs->KV (gm aO jx) (merged vs rs):=by
 intro jx rs aO vs r;unfold KV at r;induction r generalizing aO vs with
 |nil=>intro q;exact q
 | @cons p q ps qs h t ih =>
  intro r0;have e:KV (ko aO p.1 p.2) (stored vs q.1 q.2):=by
   have:=r0.DI p.1 h.2
   rw[<-h.1];exact this
  exact ih e
theorem nB:∀(jx aO:List (dI×V)),(gm aO jx).length<=aO.length+jx.length
 |[],aO=>by show aO.length<=aO.length+0;omega
 |p::r,aO=>by
  have h1:=nB r (ko aO p.1 p.2)
  have h2:=lZ aO p.1 p.2;show (gm (ko aO p.1 p.2) r).length<=_
  rw[zaB];omega
theorem sW:∀{aO:List (dI×V)} {ws:List (Value×Value)},VV (aO.map λkv=>(kV kv.1,kv.2)) ws->∃rs,Carries (bX P w) ws rs/\KV aO rs
 |[],_,r=>by rw[zbK] at r;cases r;exact⟨[],True.intro,.nil⟩
 |p::aO,_,r=>by
  rw[zas] at r;cases r with
  | @cons a b as bs h t =>
   obtain⟨rs,c,q⟩:=sW (P:=P) (w:=w) t
   obtain⟨b1,b2⟩:=b;exact⟨(p.1,b2)::rs,⟨qM h.1,rfl,c⟩,.cons ⟨rfl,h.2⟩ q⟩
noncomputable def age (Vf:List (TE×TE)):TE:=λσ H Q=>∀p,H p=none->yX Vf σ (bF H p (.dK [])) λps H2=>H2 p=some (.dK [])/\∃aO:List (dI×V),ps=aO.map (λkv=>(kV kv.1,kv.2))/\aO.length<=15/\Q (.ref p) (bF H2 p (.dK (gm [] aO)))
theorem Q6 {X:Cx}{pos:Pos}{pT:List (Option Expr)}{pZ:List Expr}{Vf:List (TE×TE)}(h:PPs X pos pT pZ Vf)(K8:pT.all (·.isSome)=true)(hl:pT.length=pZ.length)(h0:pT≠[])
  (h15:pT.length<=15):PE X (.Dict pT pZ pos) (age Vf):=by
 intro ah s σ H Q I q;have hn:=I.b_.fresh (zah s.heap.objs.size)
 have I1:=I.jF (a:=s.heap.objs.size) (o:=.dK []) (h':=s.heap.push { cls:=.type "dict",data:=.dict #[]}) (t':=s.toks) (λ_ _ q=>zac _ q) (zah _) (AS s.heap I.big)
 refine wpAny_Dict_walk (knd:=bX X.prog X.w) K8 hl h0 h15 (cQ (h ah _ σ _ _ I1 (q _ hn)) λws s2 ⟨ps,H2,I2,jm,e,aO,ep,lk,q2⟩=>?_)
 subst ep;obtain⟨rs,c,rk⟩:=sW (P:=X.prog) (w:=X.w) jm
 obtain⟨z,hd,vs0,r0,dd⟩:=Ve I2.b_ e;cases r0;refine⟨rs,c,dd,λh' Dc hs=>⟨.ref s.heap.objs.size,_,?_,rfl,q2⟩⟩
 have hz:(gm [] aO).length<=sizeLine:=by
  have h1:=nB aO []
  rw[zbM] at h1;rw[zdN];omega
 have he:∃q,h'.get? s.heap.objs.size=some q:=let ⟨q,_,_,hq,_⟩:=Dc;⟨q,hq⟩
 exact yW I2 (by rw[e];exact True.intro) hs he (K4 hz hd (rk.AU .nil) Dc)
structure M2 (X:Cx) (o:Expr) (m:Str) (eY:Pos) (e f:Expr) (g7:Pos):Prop where
 base:attributeBase o m X.env (eval o X.env)=eval o X.env
 few:((backTo g7 (starEach [e,f] X.env)).all (λx=>!x.1) && (backToKw g7 (keywordEach [] X.env)).all (λx=>x.1.isSome)
  && decide (([e,f]:List Expr).length+([]:List Keyword).length+(if ([]:List Keyword).isEmpty then 0 else 1)<30))=true
 line:(eY.endLine == g7.line)=true
 agg:backTo g7 (starEach [e,f] X.env)=[(false,eval e X.env),(false,eval f X.env)]
noncomputable def IsD (H:Hp)(a:Addr):Prop:=(∃aO,Rd H a (.dK aO))\/∃aO,Rd H a (.dT aO)
theorem ZE (I:aL X ah σ H s)(d:IsD H a):
  s.TypeIs (.ref a) "dict" /\ (∀b,Value.ref a = .ref b->∃ob,s.heap.get? b=some ob/\ob.dict=none)/\(a == sysModules)=false:=by
 rcases d with⟨aO,e⟩|⟨aO,e⟩
 ·obtain⟨_,hd,vs,_,dd⟩:=qN I.b_ e
  refine⟨dd.typeIs,λb q=>?_,hd⟩
  cases q;obtain⟨ob,_,_,h1,h2,_⟩:=dd;exact⟨ob,h1,h2.2.1⟩
 ·obtain⟨_,hd,xs,_,dd⟩:=sV I.b_ e
  refine⟨dd.typeIs,λb q=>?_,hd⟩
  cases q;obtain⟨ob,_,_,h1,h2,_⟩:=dd;exact⟨ob,h1,h2.2.1⟩
theorem ZF (hu:A.units+1<cLine)(I:aL X ah σ H s)(g:nL H a y o)(ry:bI y u)(rd:bI d r)(h:∀w' s',aL X ah σ H s'->bI (o.getD d) w'->Q w' s'):
  wpAny (model X.prog X.w) A (call (.builtin "dict.get") [.ref a,u,r]) Q E s:=by
 rcases g with⟨aO,k,e,ey,l⟩|⟨aO,k,b,e,ey,eb,l⟩
 ·subst ey
  obtain⟨z,hd,vs,jm,dd⟩:=qN I.b_ e;refine call_meetsIn zcN dd.typeIs zdP (zdE _ _ _) (meets_dict_get_default (bX X.prog X.w) a (qM ry) hd r) ⟨_,dd.mapOf,h _ _ (I.nH _) ?_⟩
  rw[l];exact (jm.val k).getD rd
 ·subst ey
  cases (show u=Value.ref b from ry)
  obtain⟨z,hd,xs,jm,dd⟩:=sV I.b_ e;refine call_meetsIn zcN dd.typeIs zdP (zdE _ _ _) (meetsH_dict_get_default (tupleKind (bX X.prog X.w)) a b hd r) ⟨zce hu,k,xs,pY I.b_ eb,dd,h _ _ (I.nH _) ?_⟩
  rw[l];exact (jm.val k).getD rd
noncomputable def ZG (td ty tx:TE):TE:=λσ H Q=>td σ H λx H1=>∃a,x = .ref a/\IsD H1 a/\ty σ H1 λy H2=>tx σ H2 λz H3=>∃o,nL H3 a y o/\Q (o.getD z) H3
theorem K9 (hu:X.A.units+1<cLine)(ho:PE X o td)(he:PE X e ty)(hf:PE X f tx)(m:M2 X o "get" eY e f g7):PE X (.Call (.Attribute o "get" eY) [e,f] [] g7) (ZG td ty tx):=by
 intro ah s σ H Q I h;refine wpAny_Call_method m.base m.few m.line PySem.F.plainAttrs_dict zcN PySem.F.type_dict_get (cQ (ho ah s σ H _ I h) λu s1 ⟨x,H1,I1,rx,a,ex,d,q1⟩=>?_)
 subst ex;obtain rfl:u=Value.ref a:=rx
 obtain⟨t1,t2,_⟩:=ZE I1 d;refine⟨t1,t2,?_⟩
 rw[m.agg];refine zcH rfl (zcO (zde (cQ (he ah s1 σ H1 _ I1 q1) λiv s2 ⟨y,H2,I2,ry,q2⟩ =>
  zde (cQ (hf ah s2 σ H2 _ I2 q2) λfv s3 ⟨z,H3,I3,rz,ov,g,q3⟩=>Calls.spliced_nil ?_))))
 exact ZF hu I3 g ry rz λw' s4 I4 DJ=>⟨_,H3,I4,DJ,q3⟩
end L2
namespace HT
open PySem PyProof.Rows
section
open PySem.SeqAt
open PySem.AutoSeq1 (wpAny_loadPart')
open PySem.MeetsSeq PySem.MeetsSeq2 PySem.MeetsSeq3
end
theorem Q7 (ht:IsTup s.heap t vs.toArray)(hb:IsTup s.heap b ws.toArray)(hv:vs≠[])
  (h1:ws=[]->Q (.ref t) s) (h2:ws≠[]->Q (.ref s.heap.objs.size) { s with heap:=s.heap.push { cls:=.type "tuple",data:=.seq (vs++ws).toArray} })
  (hsz:vs.length+ws.length<=sizeLine):wpAny (model prog w) A (binaryOp .Add (.ref t) (.ref b)) Q E s:=by
 obtain⟨⟨cls,dd,data,sl⟩,ho,hc,n,hd⟩:=id ht
 obtain⟨⟨ap5,dd2,aor,K_⟩,ho2,hc2,n2,hd2⟩:=id hb
 simp only at hc hd hc2 hd2
 subst hc hd hc2 hd2;have e:vs.toArray++ws.toArray=(vs++ws).toArray:=by simp
 by_cases hw:ws=[]
 ·exact concat_meets ⟨_,ho,rfl⟩ ⟨_,ho2,rfl⟩ noFill_tuple_add seq_tuple_add zdQ zdF (zdB _ _)
   (tuple_addW1 t b vs.toArray ws.toArray n n2 dd dd2 sl K_ (by simpa using hv) (by simp[hw])) ⟨ho,ho2,h1 hw⟩
 ·refine concat_meets ⟨_,ho,rfl⟩ ⟨_,ho2,rfl⟩ noFill_tuple_add seq_tuple_add zdQ zdF (zdB _ _)
   (tuple_addW2 t b vs.toArray ws.toArray n n2 dd dd2 sl K_ (by simpa using hv) (by simpa using hw) (by rw[zao,zao];exact hsz)) ⟨ho,ho2,?_⟩
  rw[e];exact h2 hw
noncomputable def gx (n d:Nat):Option Int->Nat
 |none=>d
 |some v=>if v<0 then (v+(n:Int)).toNat else min v.toNat n
theorem AV (n d:Nat):gx n d none=d:=rfl
theorem yY (n d k:Nat):gx n d (some (k:Int))=min k n:=by
 show (if (k:Int)<0 then ((k:Int)+(n:Int)).toNat else min (k:Int).toNat n)=min k n
 rw[if_neg (by omega),zbo]
theorem ZH (n d:Nat)(hd:d<=n)(o:Option Int):gx n d o<=n:=by
 cases o with
 |none=>exact hd
 |some v =>
  show (if v<0 then (v+(n:Int)).toNat else min v.toNat n)<=n
  by_cases hv:v<0
  ·rw[if_pos hv];omega
  ·rw[if_neg hv];exact Nat.min_le_right _ _
theorem FU (v:Int)(n d:Nat):(if v<0 then max (v+(n:Int)) 0 else min v (n:Int))=((gx n d (some v):Nat):Int):=by
 show (if v<0 then max (v+(n:Int)) 0 else min v (n:Int))=(((if v<0 then (v+(n:Int)).toNat else min v.toNat n):Nat):Int)
 by_cases hv:v<0
 ·simp only[if_pos hv];omega
 ·simp only[if_neg hv];omega
theorem DK (lo hi:Option Int)(n:Nat):Builtin.Slice.sliceAdjust lo hi 1 (n:Int)=(((gx n 0 lo:Nat):Int),((gx n n hi:Nat):Int)):=by
 have h1:¬ ((1:Int)<0):=by omega
 unfold Builtin.Slice.sliceAdjust;simp only[h1,if_false];refine Prod.ext ?_ ?_
 ·cases lo with
  |none=>rfl
  |some v=>exact FU v n 0
 ·cases hi with
  |none=>rfl
  |some v=>exact FU v n n
theorem DL (i j:Nat):Builtin.Slice.slicePlaces (i:Int) (j:Int) 1=j - i:=by
 unfold Builtin.Slice.slicePlaces;have h1:(1:Int) > 0:=by omega
 simp only[h1,if_true,Int.ediv_one];split<;>omega
theorem sX (p:IsPart v o)(h:Q o s):wpAny (model prog w) A (Builtin.Slice.slicePartIndex v) Q E s:=by
 cases p with
 |none=>exact slicePart_none h
 |int i t=>exact slicePart_int h
theorem p_ {sl:Addr}{vl vu:Value}{lo hi:Option Int}{n:Nat}{Q:Int×Int×Nat->Shared->Prop}(hs:s.heap.IsSliceOf sl vl vu .none)(pl:IsPart vl lo)(pu:IsPart vu hi)
  (h:Q (((gx n 0 lo:Nat):Int),1,gx n n hi - gx n 0 lo) s):wpAny (model prog w) A (Builtin.Slice.sliceApplied (.ref sl) (pure (n:Int))) Q E s:=by
 obtain⟨os,Q8,hcs,hds⟩:=id hs;unfold Builtin.Slice.sliceApplied Builtin.Slice.sliceFields;refine zaa (zaa (zbr Q8 hds (x:=vl) rfl (zaa (zbr Q8 hds (x:=vu) rfl (zaa (zbr Q8 hds (x:=.none) rfl (zaf ?_)))))))
 refine zaa (slicePart_none ?_)
 show wpAny _ _ (if ((1:Int) == 0)=true then _ else _) _ _ s
 rw[if_neg (by decide)]
 refine zaa (sX pl (zaa (sX pu (zaa (zaf ?_)))))
 show wpAny _ _ (match Builtin.Slice.sliceAdjust lo hi 1 (n:Int) with | (lo,hi)=>pure (lo,(1:Int),Builtin.Slice.slicePlaces lo hi 1)) _ _ s
 rw[DK lo hi n];show wpAny _ _ (pure (((gx n 0 lo:Nat):Int),(1:Int),Builtin.Slice.slicePlaces ((gx n 0 lo:Nat):Int) ((gx n n hi:Nat):Int) 1)) _ _ s
 rw[DL];exact zaf h
theorem La (xs:Array Value)(i k:Nat):((List.range k).filterMap λ(m:Nat)=>xs[((i:Int)+(m:Int) * 1).toNat]?).toArray=((xs.toList.drop i).take k).toArray:=by
 have e:(λ(m:Nat)=>xs[((i:Int)+(m:Int) * 1).toNat]?)=λm=>xs[i+m]?:= by
  funext m
  have:((i:Int)+(m:Int) * 1).toNat=i+m:=by omega
  rw[this]
 rw[e]
 have:=pick_run xs i k
 rw[List.filterMap_map] at this;have e2:((λx=>xs[x]?) ∘ λx=>i+x)=λm=>xs[i+m]?:= rfl
 rw[e2] at this;rw[this]
theorem oG {t sl:Addr}{items:Array Value}{vl vu:Value}{lo hi:Option Int}{Q:Value->Shared->Prop}(ht:IsTup s.heap t items)(hs:s.heap.IsSliceOf sl vl vu .none)(pl:IsPart vl lo)(pu:IsPart vu hi)
  (hw:¬ (gx items.size 0 lo=0/\gx items.size items.size hi=items.size))
  (h:Q (.ref s.heap.objs.size) { s with heap:=s.heap.push { cls:=.type "tuple",data:=.seq ((items.toList.drop (gx items.size 0 lo)).take (gx items.size items.size hi - gx items.size 0 lo)).toArray} })
  (hsz:items.size<=sizeLine):wpAny (model prog w) A (getItem (.ref t) (.ref sl)) Q E s:=by
 have FW:sizeOk (.seq ((items.toList.drop (gx items.size 0 lo)).take (gx items.size items.size hi - gx items.size 0 lo)).toArray):=by
  show ((items.toList.drop (gx items.size 0 lo)).take (gx items.size items.size hi - gx items.size 0 lo)).toArray.size<=sizeLine
  rw[zao,zbj,zdC,zcV];omega
 have hj:gx items.size items.size hi<=items.size:=ZH _ _ (zah _) hi
 obtain⟨os,Q8,hcs,hds⟩:=id hs;have hTs:s.TypeIs (.ref sl) "slice" := ⟨os,Q8,hcs⟩
 unfold getItem;try with_reducible refine zbu ?_
 first|refine zaa (zaf ?_)|skip
 refine zaa (wpAny_sequenceKey ht.typeIs (by decide) ?_)
 refine zaa (zbE (name:=Str.ofString "__getitem__") ht.typeIs zca
  (zbS zca ht.typeIs entry_tuple_getitem ?_ (args_tuple_getitem _ _)))
 show wpAny _ _ (Builtin.Tuple.tupleItemsOf (.ref t) >>= _) _ _ s
 refine zaa (tupleItemsOf_ ht ?_)
 refine zaa (wpAny_typeOf hTs ?_)
 rw[if_pos (by decide)]
 refine zaa (p_ hs pl pu ?_)
 have hno:¬ ((((gx items.size 0 lo:Nat):Int) == 0 && (1:Int) == 1 && (gx items.size items.size hi - gx items.size 0 lo) == items.size)=true):=by
  intro q;rw[zbe,zbe] at q;have q1:((gx items.size 0 lo:Nat):Int)=0:=eq_of_beq q.1.1
  have q2:gx items.size items.size hi - gx items.size 0 lo=items.size:=eq_of_beq q.2
  exact hw ⟨by omega,by omega⟩
 show wpAny _ _ (if (((gx items.size 0 lo:Nat):Int) == 0 && (1:Int) == 1 && (gx items.size items.size hi - gx items.size 0 lo) == items.size)=true then _ else _) _ _ s
 rw[if_neg hno,La];first
  |exact zaa (m:=Builtin.Tuple.tupleExact _) (zaS (zaf ⟨_,rfl,zaf h⟩) FW)
  |exact zaa (m:=Builtin.Tuple.tupleExact _) (zaS (zaa (zaf (zaf ⟨_,rfl,zaf h⟩))) FW)
  |exact zaa (zaa (m:=Builtin.Tuple.tupleExact _) (zaS (zaf (zaf ⟨_,rfl,zaf h⟩)) FW))
  |exact zaa (zaa (m:=Builtin.Tuple.tupleExact _) (zaS (zaf ⟨_,rfl,zaf h⟩) FW))
end HT
namespace L2
open PySem PySem.Spec PyProof.Rows
noncomputable abbrev TO:=St->Hp->(Option Int->Hp->Prop)->Prop
noncomputable def PO (X:Cx)(e:Option Expr)(t:TO):Prop:=
 ∀(ah:List (Addr×Obj)) (s:Shared) (σ:St) (H:Hp) (Q:Option Int->Hp->Prop),aL X ah σ H s->t σ H Q ->
  wpAny (model X.prog X.w) X.A (evalPart e X.env) (λu s'=>∃o H',aL X ah σ H' s'/\IsPart u o/\Q o H') X.xe s
noncomputable def Q9:TO:=λ_ H Q=>Q none H
noncomputable def agh (t:TE):TO:=λσ H Q=>t σ H λx H1=>∃i,x = .int i/\Q (some i) H1
theorem DM:∀{us:List Value},bL (ns.map V.int) us->IntsAre us ns:=by
 induction ns with
 |nil=>intro us r;rw[zbK] at r;cases r;exact .nil
 |cons n ns ih =>
  intro us r;rw[zas] at r;cases r with
  |cons r1 r2 =>
   obtain⟨t,e⟩:=r1;subst e;exact .cons n t (ih r2)
section
variable {X:Cx}{e:Expr}{te:TE}{lo hi:Option Expr}{tl th:TO}{pos p2:Pos}
theorem Q_:PO X none Q9:=by
 intro ah s σ H Q I h;rw[evalPart_none];exact zaf ⟨none,H,I,.none,h⟩
theorem Ra (h:PE X e te):PO X (some e) (agh te):=by
 intro ah s σ H Q I hw;rw[evalPart_some];refine cQ (h ah s σ H _ I hw) λu s1 ⟨x,H1,I1,r1,q1⟩=>?_
 obtain⟨i,rfl,q⟩:=q1;obtain⟨t,rfl⟩:=r1;exact⟨some i,H1,I1,.int i t,q⟩
noncomputable def SlR (X:Cx)(r:V->Option Int->Option Int->Hp->VK->Prop):Prop:=
 ∀(ah:List (Addr×Obj)) (s:Shared) (σ:St) (H:Hp) (x:V) (v vl vu:Value) (lo hi:Option Int) (sl:Addr) (Q:VK),aL X ah σ H s->bI x v->s.heap.IsSliceOf sl vl vu .none->IsPart vl lo->IsPart vu hi->r x lo hi H Q ->
  ∃T id,typeLookup (.type T) "__getitem__"=pure (some (.builtin id))/\s.TypeIs v T/\wpAny (model X.prog X.w) X.A (getItem v (.ref sl)) (EP X ah σ Q) X.xe s
noncomputable def tSl (r:V->Option Int->Option Int->Hp->VK->Prop)(te:TE)(tl th:TO):TE:=λσ H Q=>te σ H λx H1=>tl σ H1 λl H2=>th σ H2 λu H3=>r x l u H3 Q
theorem Lb (hr:SlR X r)(he:PE X e te)(hl:PO X lo tl)(hu:PO X hi th):PE X (.Subscript e (.Slice lo hi none p2) pos) (tSl r te tl th):=by
 intro ah s σ H Q I h;refine Subscript_ (cQ (he ah s σ H _ I h) λv s1 ⟨x,H1,I1,r1,q1⟩=>?_)
 refine wpAny_Slice (cQ (hl ah s1 σ H1 _ I1 q1) λvl s2 ⟨l,H2,I2,pl,q2⟩=>cQ (hu ah s2 σ H2 _ I2 q2) λvu s3 ⟨u,H3,I3,pu,q3⟩=>?_)
 rw[evalPart_none];refine zaf ?_
 have I4:aL X ah σ H3 { s3 with heap:=s3.heap.push { cls:=.type "slice",data:=.fields #[vl,vu,.none]} }:=I3.gZ (t':=s3.toks) λb ob q=>zac _ q
 obtain⟨T,id,hT,ht,hg⟩:=hr ah { s3 with heap:=s3.heap.push { cls:=.type "slice",data:=.fields #[vl,vu,.none]} } σ H3 x v vl vu l u s3.heap.objs.size Q I4 r1 (Heap.IsSliceOf.new ..) pl pu q3
 show wpAny (model X.prog X.w) X.A (subscriptTail e (.Slice lo hi none p2) v (.ref s3.heap.objs.size)) (EP X ah σ Q) X.xe { s3 with heap:=s3.heap.push { cls:=.type "slice",data:=.fields #[vl,vu,.none]} }
 exact tail_any (ops:=[.ref s3.heap.objs.size,v]) ht hT hg (by with_unfolding_all rfl)
noncomputable def AW (xs:List V)(lo hi:Option Int):List V:=(xs.drop (HT.gx xs.length 0 lo)).take (HT.gx xs.length xs.length hi - HT.gx xs.length 0 lo)
theorem qO (xs:List V)(lo hi:Option Int):(AW xs lo hi).length<=xs.length:=by
 unfold AW;rw[zbj,zdC];omega
noncomputable def als (K:PySem.W.Frag):V->Option Int->Option Int->Hp->VK->Prop:=λx lo hi H Q=>∃a xs,x = .ref a/\nI K H a xs /\
 ¬ (HT.gx xs.length 0 lo=0/\HT.gx xs.length xs.length hi=xs.length)/\∀p,H p=none->Q (.ref p) (bF H p (.gE (AW xs lo hi)))
theorem ZI:SlR X (als X.K):=by
 intro ah s σ H x v vl vu lo hi sl Q I rx hs pl pu h;obtain⟨a,xs,rfl,hx,hw,q⟩:=h;cases rx;obtain⟨bu,r,ht,hz⟩:=I.fQ hx;have dB:bu.toArray.size=xs.length:=by rw[zao];exact r.length.symm
 refine⟨"tuple",_,zca.lookup,ht.typeIs,?_⟩
 refine HT.oG ht hs pl pu (by rw[dB];exact hw) ?_ (by rw[dB];exact hz)
 rw[dB];refine⟨.ref s.heap.objs.size,_,I.jF (t':=s.toks) (o:=.gE (AW xs lo hi)) (λb ob q=>zac _ q) (zah _) ?_,rfl,q _ (I.b_.fresh (zah _))⟩
 exact⟨zai (qO xs lo hi) hz,_,(r.drop (HT.gx xs.length 0 lo)).take (HT.gx xs.length xs.length hi - HT.gx xs.length 0 lo),IsTup.new _ _⟩
noncomputable def agi (K:PySem.W.Frag):R2:=λx y H Q=>∃a b xs ys,x = .ref a/\y = .ref b/\nI K H a xs/\nI K H b ys/\xs≠[]/\xs.length+ys.length<=sizeLine /\
 (ys=[]->Q (.ref a) H)/\(ys≠[]->∀p,H p=none->Q (.ref p) (bF H p (.gE (xs++ys))))
theorem bL.yZ (r:bL xs us):us=[]↔xs=[]:=by
 cases r with
 |nil=>simp
 |cons _ _=>simp
theorem Rb:ki X (binaryOp .Add) (agi X.K):=by
 intro ah s σ H x y v u Q I rx ry h;obtain⟨a,b,xs,ys,rfl,rfl,ha,hb,hx,hz,q1,q2⟩:=h;cases rx;cases ry;obtain⟨bu,r1,p1,_⟩:=I.fQ ha;obtain⟨ie,r2,p2,_⟩:=I.fQ hb;refine HT.Q7 p1 p2 (λz=>hx (r1.yZ.mp z)) (λz=>⟨.ref a,H,I,rfl,q1 (r2.yZ.mp z)⟩) (λz=>?_) (by rw[<-r1.length,<-r2.length];exact hz)
 refine⟨.ref s.heap.objs.size,_,I.jF (t':=s.toks) (o:=.gE (xs++ys)) (λb ob q=>zac _ q) (zah _) ?_,rfl,q2 (λw=>z (r2.yZ.mpr w)) _ (I.b_.fresh (zah _))⟩
 exact⟨by rw[zag];exact hz,_,r1.lU r2,IsTup.new _ _⟩
end
noncomputable def AA (n:Nat)(i:Int):Option Nat:=if 0<=i then (if i<n then some i.toNat else none) else if -(n:Int)<=i then some (i+n).toNat else none
noncomputable def iz {α:Type}(xs:List α)(i:Int):Option α:= (AA xs.length i).bind λj=>xs[j]?
theorem FY (h:AA n i=some j):seqIndex? i n=some j/\j<n /\ -(n:Int)<=i/\i<n:=by
 unfold AA at h;by_cases h0:0<=i
 ·rw[if_pos h0] at h
  by_cases h1:i<n
  ·rw[if_pos h1] at h
   have e:i.toNat=j:=zav h
   exact⟨by rw[seqIndex_of h0 h1,e],by omega,by omega,h1⟩
  ·rw[if_neg h1] at h;cases h
 ·rw[if_neg h0] at h
  by_cases h1: -(n:Int)<=i
  ·rw[if_pos h1] at h
   have e:(i+n).toNat=j:=zav h
   exact⟨by rw[seqIndex_neg (by omega) h1,e],by omega,h1,by omega⟩
  ·rw[if_neg h1] at h;cases h
theorem y9 {α:Type}{xs:List α}{i:Int}{v:α}(h:iz xs i=some v):∃j,seqIndex? i xs.length=some j/\xs[j]? = some v/\j<xs.length /\ -(xs.length:Int)<=i/\i<xs.length:=by
 unfold iz at h;cases e:AA xs.length i with
 |none=>rw[e] at h;cases h
 |some j =>
  rw[e] at h;obtain⟨h1,h2,h3,h4⟩:=FY e;exact⟨j,h1,h,h2,h3,h4⟩
theorem gy {α:Type}{xs:List α}{j:Nat}{v:α}(h:xs[j]? = some v):iz xs (j:Int)=some v:=by
 have hj:j<xs.length:=(zab.mp h).1
 have e:AA xs.length (j:Int)=some j:=by
  unfold AA;rw[if_pos (by omega),if_pos (by omega)];simp
 unfold iz;rw[e];exact h
noncomputable def FZ (b:Expr):Prop:=∀o i,subscripted b false o i=operate [o,i] (getItem o i)
noncomputable def Rc (X:Cx)(r:R2):Prop:=
 ∀(value slice:Expr) (ah:List (Addr×Obj)) (s:Shared) (σ:St) (H:Hp) (x y:V) (v u:Value) (Q:VK),aL X ah σ H s->bI x v->bI y u->r x y H Q ->
  subscripted slice false v u=operate [v,u] (getItem v u)->wpAny (model X.prog X.w) X.A (subscriptTail value slice v u) (EP X ah σ Q) X.xe s
noncomputable def MtR (X:Cx)(id:String)(r:V->List V->Hp->VK->Prop):Prop:=
 ∀(ah:List (Addr×Obj)) (s:Shared) (σ:St) (H:Hp) (x:V) (xs:List V) (v:Value) (us:List Value) (Q:VK),aL X ah σ H s->bI x v->bL xs us->r x xs H Q ->
  wpAny (model X.prog X.w) X.A (call (.builtin id) (v::us)) (EP X ah σ Q) X.xe s
section
variable {X:Cx}{a b:Expr}{ta tb:TE}{pos:Pos}
theorem Rc.or (h:Rc X r)(h':Rc X r'):Rc X (λx y H Q=>r x y H Q\/r' x y H Q):=by
 intro value slice ah s σ H x y v u Q I rx ry q hs;rcases q with q|q
 ·exact h value slice ah s σ H x y v u Q I rx ry q hs
 ·exact h' value slice ah s σ H x y v u Q I rx ry q hs
theorem agj (hr:Rc X r)(ha:PE X a ta)(hb:PE X b tb)(hs:FZ b):PE X (.Subscript a b pos) (tOp r ta tb):=by
 intro ah s σ H Q I h;exact Subscript_ (Zl ha hb I h λv u s2 x y H2 I2 rx ry q=>hr a b ah s2 σ H2 x y v u Q I2 rx ry q (hs _ _))
noncomputable def agk (K:PySem.W.Frag):R2:=λx y H Q=>∃p xs i v,x = .ref p/\y = .int i/\jk K H p xs/\iz xs i=some v/\Q v H
noncomputable def agl (K:PySem.W.Frag):R2:=λx y H Q=>∃p xs i v,x = .ref p/\y = .int i/\nI K H p xs/\iz xs i=some v/\Q v H
noncomputable def agm:R2:=λx y H Q=>∃z i c,x = .str z/\y = .int i/\z.length<=sizeLine/\iz z.cps.toList i=some c/\Q (.str ⟨#[c]⟩) H
theorem Rf:Rc X (agk X.K):=by
 intro value slice ah s σ H x y v u Q I rx ry h hs;obtain⟨p,xs,i,z,rfl,rfl,hq,he,q⟩:=h;cases rx;obtain⟨t,rfl⟩:=ry;obtain⟨bu,r,pl,hz⟩:=I.list hq;obtain⟨j,h1,h2,h3,h4,h5⟩:=y9 he;obtain⟨w,ew,DJ⟩:=r.get h2;have hl:=r.length;have hn:=pW;have eO:EP X ah σ Q w s:=⟨z,H,I,DJ,q⟩
 by_cases h0:0<=i
 ·have hj:i.toNat=j:=by
   rw[seqIndex_of h0 h5] at h1;exact zav h1
  exact item_listR pl.isList h0 (by omega) (by rw[hj];simpa using ew) eO hs
 ·have hj:(i+(bu.toArray.size:Int)).toNat=j:=by
   rw[seqIndex_neg (by omega) h4] at h1
   rw[zao,<-hl];exact zav h1
  exact subscriptTail_builtinR (x:=w) pl.isList.typeIs slot_list_getitem.lookup
   (wpAny_getItem_list_neg (Q:=λr s'=>r=w/\EP X ah σ Q r s') pl.isList (by omega) (by rw[zao]<;>omega) (by omega) (by rw[hj];simpa using ew) ⟨rfl,eO⟩) hs
theorem ZJ:Rc X (agl X.K):=by
 intro value slice ah s σ H x y v u Q I rx ry h hs;obtain⟨p,xs,i,z,rfl,rfl,hq,he,q⟩:=h;cases rx;obtain⟨t,rfl⟩:=ry;obtain⟨bu,r,pl,hz⟩:=I.fQ hq;obtain⟨j,h1,h2,h3,h4,h5⟩:=y9 he;obtain⟨w,ew,DJ⟩:=r.get h2;have hl:=r.length;have hn:=pW;have eO:EP X ah σ Q w s:=⟨z,H,I,DJ,q⟩
 exact subscriptTail_builtinR (x:=w) pl.typeIs slot_tuple_getitem.lookup
  (getItem_tuple (j:=j) (Q:=λr s'=>r=w/\EP X ah σ Q r s') pl (by omega) (by omega) (by rw[zao,<-hl];exact h1) (by simpa using ew) ⟨rfl,eO⟩) hs
theorem ZK:Rc X agm:=by
 intro value slice ah s σ H x y v u Q I rx ry h hs;obtain⟨z,i,c,rfl,rfl,hz,he,q⟩:=h;obtain⟨t,rfl⟩:=rx;obtain⟨t',rfl⟩:=ry;obtain⟨j,h1,h2,h3,h4,h5⟩:=y9 he;have hl:z.cps.toList.length=z.length:=by simp[Str.length]
 rw[hl] at h1 h4 h5;have hn:=pW;exact tail_any (typeIs_str s z t) slot_str_getitem.lookup (getItem_str (c:=c) (by
  have e1:decide (i < -(2 ^ 63:Int))=false:=decide_eq_false (by omega)
  have e2:decide (i ≥ 2 ^ 63)=false:=decide_eq_false (by omega)
  rw[e1,e2,zef]) (by rw[h1];simpa using h2) ⟨.str ⟨#[c]⟩,H,I.nH _,⟨_,rfl⟩,q⟩) hs
noncomputable def rIx (K:PySem.W.Frag):R2:=λx y H Q=>agk K x y H Q\/agl K x y H Q\/agm x y H Q
theorem ZL:Rc X (rIx X.K):=Rf.or (ZJ.or ZK)
theorem DN (bu:List Value)(n j:Nat)(u:Value):Obj.mapSeq (·.setIfInBounds j u) { cls:=.type "list",data:=.seq bu.toArray n} = { cls:=.type "list",data:=.seq (bu.set j u).toArray n}:=by
 simp[Obj.mapSeq]
theorem aL.bM (I:aL X ah σ H s)(h:H p=some (.bM xs)):
  ∃(bu:List Value) (n:Nat),bL xs bu/\s.heap.get? p=some { cls:=.type "list",data:=.seq bu.toArray n}/\xs.length<=sizeLine:=by
 obtain⟨z,bu,n,r,e⟩:=I.b_ p _ h;exact⟨bu,n,r,e,z⟩
theorem aL.ZM {ah:List (Addr×Obj)}{σ:St}{H:Hp}{s:Shared}{p:Addr}{xs ys:List V}{bu its':List Value}{n n':Nat}{f:Obj->Obj}(I:aL X ah σ H s)(h:H p=some (.bM xs))
  (ho:s.heap.get? p=some { cls:=.type "list",data:=.seq bu.toArray n}) (hf:f { cls:=.type "list",data:=.seq bu.toArray n} = { cls:=.type "list",data:=.seq its'.toArray n' }) (r:bL ys its') (hz:ys.length<=sizeLine) (t:Nat):
  aL X ah σ (bF H p (.bM ys)) {s with heap:=s.heap.update p f,toks:=t}:=by
 have e:(s.heap.update p f).get? p=some { cls:=.type "list",data:=.seq its'.toArray n' }:=by
  rw[zaQ f ho (by rw[hf]<;>rfl),hf]
 refine I.ji (x:=p) (e:=p) (by rw[h];trivial) (.inl rfl) (λb u hb q=>(zaA _ _ (zbc hb)).trans q) ⟨_,e⟩ ?_
 exact⟨hz,its',n',r,e⟩
noncomputable def agn:V->V->V->Hp->(Hp->Prop)->Prop:=λo i v H Q=>∃p xs k j,o = .ref p/\i = .int k/\H p=some (.bM xs)/\AA xs.length k=some j/\Q (bF H p (.bM (xs.set j v)))
theorem Lc:Zd X agn:=by
 intro ah s σ H o i v ov iv u Q I ro ri rv h;obtain⟨p,xs,k,j,rfl,rfl,hp,hj,q⟩:=h;cases ro;obtain⟨t,rfl⟩:=ri;obtain⟨bu,n,r,ho,hz⟩:=I.bM hp;obtain⟨h1,h2,h3,h4⟩:=FY hj;have hl:=r.length;have hn:=pW;have I':aL X ah σ (bF H p (.bM (xs.set j v))) {s with heap:=s.heap.update p (Obj.mapSeq (·.setIfInBounds j u))}:=
  I.ZM hp ho (DN bu n j u) (r.set rv j) (by rw[zcP];exact hz) s.toks
 by_cases h0:0<=k
 ·have hk:k.toNat=j:=by
   rw[seqIndex_of h0 h4] at h1;exact zav h1
  exact PySem.W.ki_setAt ho h0 (by omega) (by rw[zao,<-hl];exact h4) (by rw[hk];exact⟨_,I',q⟩)
 ·have hk:(k+(bu.toArray.size:Int)).toNat=j:=by
   rw[seqIndex_neg (by omega) h3] at h1
   rw[zao,<-hl];exact zav h1
  exact PySem.W.ki_setBack ho (by omega) (by rw[zao,<-hl];exact h3) (by omega) (by rw[hk];exact⟨_,I',q⟩)
theorem y_ (lo hi:Option Int)(n:Nat):(sliceBounds lo hi none n).1=((HT.gx n 0 lo:Nat):Int)/\(sliceBounds lo hi none n).2.1=((HT.gx n n hi:Nat):Int)/\(sliceBounds lo hi none n).2.2=1:=by
 refine⟨?_,?_,rfl⟩
 ·cases lo with
  |none=>simp[sliceBounds,HT.gx]
  |some i =>
   simp only[sliceBounds,HT.gx,zbF,show (1:Int) > 0 by decide,if_true]
   by_cases h:i<0
   ·simp only[h,if_true]<;>omega
   ·simp only[h,if_false]<;>omega
 ·cases hi with
  |none=>simp[sliceBounds,HT.gx]
  |some i =>
   simp only[sliceBounds,HT.gx,zbF,show (1:Int) > 0 by decide,if_true]
   by_cases h:i<0
   ·simp only[h,if_true]<;>omega
   ·simp only[h,if_false]<;>omega
theorem vZ (bu:List Value)(lo hi:Option Int):slicePick bu.toArray lo hi none=((bu.drop (HT.gx bu.length 0 lo)).take (HT.gx bu.length bu.length hi - HT.gx bu.length 0 lo)).toArray:=by
 obtain⟨h1,h2,h3⟩:=y_ lo hi bu.toArray.size;unfold slicePick;rw[h1,h2,h3];simp only[sliceRange_one,pick_run,zao]<;>rfl
noncomputable def alv (K:PySem.W.Frag):V->Option Int->Option Int->Hp->VK->Prop:=λx lo hi H Q=>∃a xs,x = .ref a/\jk K H a xs/\∀p,H p=none->Q (.ref p) (bF H p (.bM (AW xs lo hi)))
theorem Rg:SlR X (alv X.K):=by
 intro ah s σ H x v vl vu lo hi sl Q I rx hs pl pu h;obtain⟨a,xs,rfl,hx,q⟩:=h;cases rx;obtain⟨bu,r,ht,hz⟩:=I.list hx;have dB:=r.length;refine⟨"list",_,slot_list_getitem.lookup,ht.isList.typeIs,?_⟩
 refine wpAny_getItem_list_slice ht.isList hs pl pu .none (by simp) ?_ (by rw[zao]<;>omega)
 rw[vZ,<-dB];refine⟨.ref s.heap.objs.size,_,I.jF (t':=s.toks) (o:=.bM (AW xs lo hi)) (λb ob q=>zac _ q) (zah _) ?_,rfl,q _ (I.b_.fresh (zah _))⟩
 exact⟨zai (qO xs lo hi) hz,_,0,(r.drop (HT.gx xs.length 0 lo)).take (HT.gx xs.length xs.length hi - HT.gx xs.length 0 lo),zap _ rfl⟩
noncomputable def iA:V->Bool
 |.br=>true
 |.bl _=>true
 |.int _=>true
 |.str _=>true
 |_=>false
noncomputable def zd:V->V->Bool
 |.br,.br=>true
 |.bl a,.bl b=>a == b
 |.bl a,.int b=>(if a then 1 else 0) == b
 |.int a,.bl b=>a == (if b then 1 else 0)
 |.int a,.int b=>a == b
 |.str a,.str b=>a == b
 |_,_=>false
theorem Ld (ry:bI y u)(rx:bI x v)(fy:iA y=true)(fx:iA x=true):SeqAt.EqAt A s u v (zd y x):=by
 cases y with
 |br =>
  cases ry;cases x with
  |br=>cases rx;exact zdI _
  |bl b=>cases rx;exact SeqAt.EqAt.none_bool b
  |int b=>obtain⟨t,rfl⟩:=rx;exact SeqAt.EqAt.none_int b t
  |str b=>obtain⟨t,rfl⟩:=rx;exact SeqAt.EqAt.none_str b t
  |_=>exact absurd (show false=true from fx) zal
 |bl a =>
  cases ry;cases x with
  |br=>cases rx;exact SeqAt.EqAt.bool_none a
  |bl b=>cases rx;exact SeqAt.EqAt.bool_bool a b
  |int b=>obtain⟨t,rfl⟩:=rx;exact SeqAt.EqAt.bool_int a b t
  |str b=>obtain⟨t,rfl⟩:=rx;exact SeqAt.EqAt.bool_str a b t
  |_=>exact absurd (show false=true from fx) zal
 |int a =>
  obtain⟨t',rfl⟩:=ry;cases x with
  |br=>cases rx;exact SeqAt.EqAt.int_none a t'
  |bl b=>cases rx;exact SeqAt.EqAt.int_bool a t' b
  |int b=>obtain⟨t,rfl⟩:=rx;exact SeqAt.EqAt.int_int a t' b t
  |str b=>obtain⟨t,rfl⟩:=rx;exact zel a t' b t
  |_=>exact absurd (show false=true from fx) zal
 |str a =>
  obtain⟨t',rfl⟩:=ry;cases x with
  |br=>cases rx;exact SeqAt.EqAt.str_none a t'
  |bl b=>cases rx;exact SeqAt.EqAt.str_bool a t' b
  |int b=>obtain⟨t,rfl⟩:=rx;exact zem a t' b t
  |str b=>obtain⟨t,rfl⟩:=rx;exact SeqAt.EqAt.str_str a t' b t
  |_=>exact absurd (show false=true from fx) zal
 |_=>exact absurd (show false=true from fy) zal
noncomputable def AX (x:V)(u:Value):Bool:=match u with
 |.none=>zd .br x
 |.bool b=>zd (.bl b) x
 |.int i _=>zd (.int i) x
 |.str z _=>zd (.str z) x
 |_=>false
theorem DO (r:bI y u)(f:iA y=true):AX x u=zd y x:=by
 cases y with
 |br=>cases r;rfl
 |bl b=>cases r;rfl
 |int i=>obtain⟨t,rfl⟩:=r;rfl
 |str z=>obtain⟨t,rfl⟩:=r;rfl
 |_=>exact absurd (show false=true from f) zal
theorem oH:∀{xs:List V} {us:List Value},bL xs us->xs.all iA=true->us.any (AX x)=xs.any λy=>zd y x
 |_,_,.nil,_=>rfl
 |y::xs,u::us,.cons r t,f=>by
  rw[zay,zbe] at f;rw[zcb,zcb,DO r f.1,oH t f.2]
theorem jM (rx:bI x v)(fx:iA x=true):∀{xs:List V} {us:List Value},bL xs us->xs.all iA=true->∀u∈us,SeqAt.EqAt A s u v (AX x u)
 |_,_,.nil,_=>λu hu=>by cases hu
 |y::xs,u::us,.cons r t,f=>λu' hu=>by
  rw[zay,zbe] at f;rcases zan.mp hu with rfl|hu
  ·rw[DO r f.1];exact Ld r rx f.1 fx
  ·exact jM rx fx t f.2 u' hu
noncomputable def inV (x:V)(xs:List V):Bool:=xs.any λy=>zd y x
noncomputable def rIn (K:PySem.W.Frag)(neg:Bool):R2:=λx y H Q=>∃p xs,y = .ref p/\(jk K H p xs\/nI K H p xs)/\iA x=true/\xs.all iA=true/\Q (.bl (if neg then !inV x xs else inV x xs)) H
theorem Ir:ki X (compareOp .In) (rIn X.K false):=by
 intro ah s σ H x y v u Q I rx ry h;obtain⟨p,xs,rfl,hq,fx,fs,q⟩:=h;cases ry;rcases hq with hq|hq
 ·obtain⟨bu,r,pl,hz⟩:=I.list hq
  refine SeqAt.in_listAt (AX x) pl.isList (λw hw=>jM rx fx r fs w (by simpa using hw)) ⟨.bl _,H,I,rfl,?_⟩
  rw[show bu.toArray.any (AX x)=bu.any (AX x) by simp,oH r fs]
  exact q
 ·obtain⟨bu,r,pl,hz⟩:=I.fQ hq
  refine SeqAt.in_tupleAt (AX x) pl (λw hw=>jM rx fx r fs w (by simpa using hw)) ⟨.bl _,H,I,rfl,?_⟩
  rw[show bu.toArray.any (AX x)=bu.any (AX x) by simp,oH r fs]
  exact q
theorem ze:ki X (compareOp .NotIn) (rIn X.K true):=by
 intro ah s σ H x y v u Q I rx ry h;obtain⟨p,xs,rfl,hq,fx,fs,q⟩:=h;cases ry;rcases hq with hq|hq
 ·obtain⟨bu,r,pl,hz⟩:=I.list hq
  refine SeqAt.notIn_listAt (AX x) pl.isList (λw hw=>jM rx fx r fs w (by simpa using hw)) ⟨.bl _,H,I,rfl,?_⟩
  rw[show bu.toArray.any (AX x)=bu.any (AX x) by simp,oH r fs]
  exact q
 ·obtain⟨bu,r,pl,hz⟩:=I.fQ hq
  refine SeqAt.notIn_tupleAt (AX x) pl (λw hw=>jM rx fx r fs w (by simpa using hw)) ⟨.bl _,H,I,rfl,?_⟩
  rw[show bu.toArray.any (AX x)=bu.any (AX x) by simp,oH r fs]
  exact q
theorem zf:ki X (compareOp .NotIn) (λx y H Q=>∃i j,x = .str i/\y = .str j/\Q (.bl (!(!(Builtin.Str.occurrences j i 0 j.length 1).isEmpty))) H):=by
 intro ah s σ H x y v u Q I rx ry h;obtain⟨i,j,rfl,rfl,q⟩:=h;obtain⟨t,rfl⟩:=rx;obtain⟨t',rfl⟩:=ry;exact notIn_str ⟨.bl _,H,I,rfl,q⟩
theorem zg:jJ X (.builtin "len") (λxs H Q=>∃p ys,xs=[.ref p]/\(jk X.K H p ys\/nI X.K H p ys)/\Q (.int ys.length) H):=by
 intro ah s σ H xs us Q I r h;obtain⟨p,ys,rfl,hq,q⟩:=h;obtain⟨u,rfl,rx⟩:=sP r;cases rx;have hn:=pW;rcases hq with hq|hq
 ·obtain⟨bu,r',pl,hz⟩:=I.list hq
  have dB:=r'.length;exact Calls.call_len_list pl.isList (by simp only[zao]<;>omega) ⟨.int ys.length,H,I.nH _,⟨s.toks+1,by rw[zao,dB]⟩,q⟩
 ·obtain⟨bu,r',pl,hz⟩:=I.fQ hq
  have dB:=r'.length;exact len_tuple pl (by simp only[zao]<;>omega) ⟨.int ys.length,H,I.nH _,⟨s.toks+1,by rw[zao,dB]⟩,q⟩
theorem zh:jJ X (.builtin "len") (λxs H Q=>∃z,xs=[.str z]/\z.length<=sizeLine/\Q (.int z.length) H):=by
 intro ah s σ H xs us Q I r h;obtain⟨z,rfl,hz,q⟩:=h;obtain⟨u,rfl,t,rfl⟩:=sP r;have hn:=pW;exact len_str (by omega) ⟨.int z.length,H,I.nH _,⟨_,rfl⟩,q⟩
theorem zj:jJ X (.type "list") (λxs H Q=>∃p ys,xs=[.ref p]/\(jk X.K H p ys\/nI X.K H p ys)/\∀l,H l=none->Q (.ref l) (bF H l (.bM ys))):=by
 intro ah s σ H xs us Q I r h;obtain⟨p,ys,rfl,hq,q⟩:=h;obtain⟨u,rfl,rx⟩:=sP r;cases rx;have eO:∀(bu:List Value),bL ys bu->ys.length<=sizeLine->∀(h':Heap) (c':Nat),(∀b o',s.heap.get? b=some o'->h'.get? b=some o') ->
   h'.get? s.heap.objs.size=some { cls:=.type "list",dict:=none,data:=.seq bu.toArray c',slots:=#[]}->EP X ah σ Q (.ref s.heap.objs.size) {s with heap:=h' }:=λbu r' hz h' c' kp e =>
  ⟨.ref s.heap.objs.size,_,I.jF (t':=s.toks) kp (zah _) (show cD X.prog X.w _ h' _ (.bM ys) from ⟨hz,bu,c',r',e⟩),rfl,q _ (I.b_.fresh (zah _))⟩
 rcases hq with hq|hq
 ·obtain⟨bu,r',pl,hz⟩:=I.list hq
  have dB:=r'.length;obtain⟨o,ho,hc,n,hd⟩:=pl.isList;exact call_list_seq p (.inl rfl) ho hc hd (λh' c' kp e=>eO bu r' hz h' c' kp e) (by simp only[zao]<;>omega)
 ·obtain⟨bu,r',pl,hz⟩:=I.fQ hq
  have dB:=r'.length;obtain⟨o,ho,hc,n,hd⟩:=pl;exact call_list_seq p (.inr rfl) ho hc hd (λh' c' kp e=>eO bu r' hz h' c' kp e) (by simp only[zao]<;>omega)
noncomputable def tyV (K:PySem.W.Frag)(T:String)(x:V)(H:Hp):Prop:=match x with
 |.str _=>T="str"
 |.int _=>T="int"
 |.ref p=>(T="list" /\ ∃xs,jk K H p xs)\/(T="tuple" /\ ∃o,K.lookup p=some o/\o.cls = .type "tuple" /\ o.dict=none) \/
   (T="dict" /\ ((∃aO,H p=some (.dK aO))\/∃aO,H p=some (.dT aO)))\/(T="set" /\ ∃S n,H p=some (.set S n))
 |_=>False
theorem ZN (I:aL X ah σ H s)(r:bI x v)(ty:tyV X.K T x H):
  s.TypeIs v T/\∀a,v = .ref a->∃ob,s.heap.get? a=some ob/\ob.dict=none:=by
 cases x with
 |str z =>
  obtain⟨t,rfl⟩:=r;cases (show T="str" from ty)
  exact⟨typeIs_str s z t,λ_ e=>nomatch e⟩
 |int i =>
  obtain⟨t,rfl⟩:=r;cases (show T="int" from ty)
  exact⟨typeIs_int s i t,λ_ e=>nomatch e⟩
 |ref p =>
  cases r;rcases ty with⟨rfl,xs,hq⟩|⟨rfl,o,hk,hc,hd⟩|⟨rfl,hk⟩|⟨rfl,S,n,hk⟩
  ·obtain⟨bu,_,pl,_⟩:=I.list hq
   refine⟨pl.isList.typeIs,λa e=>?_⟩
   cases e;obtain⟨o,n,e,c,hd,_⟩:=pl;exact⟨o,e,hd⟩
  ·refine⟨⟨o,I.jH p o hk,hc⟩,λa e=>?_⟩
   cases e;exact⟨o,I.jH _ o hk,hd⟩
  ·have z:∃o,s.heap.get? p=some o/\o.ExactDict:=by
    rcases hk with⟨aO,hk⟩|⟨aO,hk⟩
    ·obtain⟨_,_,_,_,o,_,_,e,ex,_⟩:=I.b_ p _ hk
     exact⟨o,e,ex⟩
    ·obtain⟨_,_,_,_,o,_,_,e,ex,_⟩:=I.b_ p _ hk
     exact⟨o,e,ex⟩
   obtain⟨o,e,ex⟩:=z;refine⟨⟨o,e,ex.1⟩,λa e2=>?_⟩
   cases e2;exact⟨o,e,ex.2.1⟩
  ·obtain⟨o,_,_,_,e,ex,_⟩:=I.b_ p _ hk
   refine⟨⟨o,e,ex.1⟩,λa e2=>?_⟩
   cases e2;exact⟨o,e,ex.2.1⟩
 |_=>exact False.elim ty
noncomputable def tBM (K:PySem.W.Frag)(T:String)(r:V->List V->Hp->VK->Prop)(to:TE)(t:TA):TE:=λσ H Q=>to σ H λx H1=>tyV K T x H1/\t σ H1 λxs H2=>r x xs H2 Q
variable {o e:Expr}{es:List Expr}{to:TE}{t:TA}{name:Str}{eY g7:Pos}{T id:String}{r:V->List V->Hp->VK->Prop}
theorem ago (pa:PlainAttrs T)(slot:Slot T name id)(hty:typeOf (.builtin id)=pure (.type "method_descriptor"))(hm:MtR X id r)(ho:PE X o to)(ha:PA X (e::es) t)
  (Le:autoParam (attributeBase o name X.env (eval o X.env)=eval o X.env) zp_0)
  (aly:autoParam (((backTo g7 (starEach (e::es) X.env)).all (λx=>!x.1) && (backToKw g7 (keywordEach [] X.env)).all (λx=>x.1.isSome)
   && decide ((e::es).length+([]:List Keyword).length+(if ([]:List Keyword).isEmpty then 0 else 1)<30))=true) zp_0)
  (Lg:autoParam ((eY.endLine == g7.line)=true) zp_0) (hs:autoParam (starEach (e::es) X.env=(false,eval e X.env)::starEach es X.env) zp_0) (ZO:autoParam ((backTo g7 (starEach es X.env)).any (·.1)=false) zp_0):
  PE X (.Call (.Attribute o name eY) (e::es) [] g7) (tBM X.K T r to t):=by
 intro ah s σ H Q I h;refine wpAny_Call_method_late Le aly Lg rfl (cQ (ho ah s σ H _ I h) λv s1 ⟨x,H1,I1,r1,ty,q1⟩=>?_)
 obtain⟨h1,h2⟩:=ZN I1 r1 ty;refine⟨T,id,pa,slot,hty,h1,h2,?_⟩
 have hA:=ha g7 ah s1 σ H1 _ I1 q1;rw[hs] at hA ⊢
 refine zcH (by show (false || (backTo g7 (starEach es X.env)).any (·.1))=false;rw[ZO]<;>rfl) (zcO ?_)
 exact cQ hA λus s2 ⟨vs,H2,I2,r2,q2⟩=>hm ah s2 σ H2 x vs v us Q I2 r1 r2 q2
end
noncomputable def MtM (X:Cx)(id:String)(r:V->List V->Hp->VK->Prop):Prop:=
 ∀(ah:List (Addr×Obj)) (s:Shared) (σ:St) (H:Hp) (x:V) (xs:List V) (v:Value) (us:List Value) (Q:VK),aL X ah σ H s->bI x v->bL xs us->r x xs H Q ->
  wpAny (model X.prog X.w) X.A (call (.builtin id) (v::us)) (EP X ah σ Q) X.xe s
theorem bL.HZ:∀{x:V} {us:List Value},bL [x] us->∃u,us=[u]/\bI x u
 |_,_,.cons r .nil=>⟨_,rfl,r⟩
theorem bL.two:∀{x y:V} {us:List Value},bL [x,y] us->∃u v,us=[u,v]/\bI x u/\bI y v
 |_,_,_,.cons r (.cons q .nil)=>⟨_,_,rfl,r,q⟩
theorem aL.agp {bu its':List Value}{n:Nat}{f:Array Value->Array Value}{t':Nat}(I:aL X ah σ H s)(hH:H l=some (.bM xs))
  (e:s.heap.get? l=some { cls:=.type "list",data:=.seq bu.toArray n}) (hf:f bu.toArray=its'.toArray) (hv:bL ys its') (hz:ys.length<=sizeLine):
  aL X ah σ (bF H l (.bM ys)) {s with heap:=s.heap.update l (Obj.mapSeq f),toks:=t' }:=by
 have q:=PySem.IsL.update e f;rw[hf] at q;refine I.ji (x:=l) (e:=l) (by rw[hH];exact trivial) (.inl rfl) (λb' u hb hu=>(zaA s.heap (Obj.mapSeq f) (zbc hb)).trans hu) ⟨_,q⟩ ?_
 exact⟨hz,its',_,hv,q⟩
theorem aL.alB (I:aL X ah σ H s)(hv:bL ys bu)(hz:ys.length<=sizeLine):
  aL X ah σ (bF H s.heap.objs.size (.bM ys)) { s with heap:=s.heap.push { cls:=.type "list",data:=.seq bu.toArray},toks:=t' }:=
 I.jF (λ_ _ q=>zac _ q) (zah _) ⟨hz,bu,0,hv,zap _ rfl⟩
theorem aL.fresh (I:aL X ah σ H s):H s.heap.objs.size=none:=I.b_.fresh (zah _)
theorem aL.Iu (I:aL X ah σ H s)(hH:H l=some (.bM xs)):xs.length<=sizeLine/\∃(bu:List Value) (n:Nat),bL xs bu/\xs.length=bu.length/\s.heap.get? l=some { cls:=.type "list",data:=.seq bu.toArray n}:=by
 obtain⟨z,bu,n,r,e⟩:=I.b_ l _ hH;exact⟨z,bu,n,r,r.length,e⟩
theorem Lh (h:n<=sizeLine):Builtin.List.listTooLong n=false:=by
 unfold Builtin.List.listTooLong;exact decide_eq_false (by omega)
noncomputable def Rh:V->List V->Hp->VK->Prop:=λx vs H Q=>∃l xs y,x = .ref l/\vs=[y]/\H l=some (.bM xs)/\xs.length<sizeLine/\Q .br (bF H l (.bM (xs++[y])))
theorem wL:MtM X "list.append" Rh:=by
 intro ah s σ H x vs v us Q I rx rv h;obtain⟨l,xs,y,rfl,rfl,hH,hz,q⟩:=h;cases rx;obtain⟨u,rfl,ru⟩:=rv.HZ;obtain⟨z,bu,n,r,hl,e⟩:=I.Iu hH;refine call_meets F.slot_list_append ⟨_,e,rfl⟩ F.entry_list_append (F.args_list_append_2 _ _) (PySem.list_append l bu.toArray n u (by rw[zao];omega)) ⟨e,?_⟩
 refine⟨.br,_,I.agp (its':=bu++[u]) hH e (by simp) (r.lU (.cons ru .nil)) ?_,rfl,q⟩
 rw[zag,zaR];omega
noncomputable def Ri:V->List V->Hp->VK->Prop:=λx vs H Q=>∃l b xs zs,x = .ref l/\vs=[.ref b]/\H l=some (.bM xs)/\H b=some (.bM zs)/\xs.length+zs.length<=sizeLine/\Q .br (bF H l (.bM (xs++zs)))
theorem Iv:MtM X "list.extend" Ri:=by
 intro ah s σ H x vs v us Q I rx rv h;obtain⟨l,b,xs,zs,rfl,rfl,hH,hB,hz,q⟩:=h;cases rx;obtain⟨u,rfl,ru⟩:=rv.HZ;cases ru;obtain⟨z,bu,n,r,hl,e⟩:=I.Iu hH;obtain⟨z2,ie,n2,r2,Ke,e2⟩:=I.Iu hB;have hsz:bu.toArray.size+ie.toArray.size<=sizeLine:=by rw[zao,zao];omega
 have agq:¬ (!bu.toArray.isEmpty && Builtin.List.listTooLong (bu.toArray.size+ie.toArray.size))=true:=by
  rw[Lh hsz,zdV];exact zal
 refine call_meets F.slot_list_extend ⟨_,e,rfl⟩ F.entry_list_extend (F.args_list_extend_2 _ _)
  (AutoSeq1.list_extend_list_list_0 l bu.toArray n b ie.toArray n2 agq (by rw[zao];omega) (by omega)) ⟨e,e2,?_⟩
 refine⟨.br,_,I.agp (its':=bu++ie) hH e (by simp) (r.lU r2) ?_,rfl,q⟩
 rw[zag];omega
noncomputable def alC:R2:=λx y H Q=>∃l b xs zs,x = .ref l/\y = .ref b/\H l=some (.bM xs)/\H b=some (.bM zs)/\xs.length+zs.length<=sizeLine/\∀p,H p=none->Q (.ref p) (bF H p (.bM (xs++zs)))
theorem Li:ki X (binaryOp .Add) alC:=by
 intro ah s σ H x y v u Q I rx ry h;obtain⟨l,b,xs,zs,rfl,rfl,hH,hB,hz,q⟩:=h;cases rx;cases ry;obtain⟨z,bu,n,r,hl,e⟩:=I.Iu hH;obtain⟨z2,ie,n2,r2,Ke,e2⟩:=I.Iu hB;refine PySem.P.add_list e e2 ?_ (by rw[zao,zao];omega)
 have ea:bu.toArray++ie.toArray=(bu++ie).toArray:=by simp
 rw[ea];exact⟨.ref _,_,I.alB (t':=s.toks) (r.lU r2) (by rw[zag];omega),rfl,q _ I.fresh⟩
end L2
namespace Att
open PySem PySem.W PySem.Calls PyProof.Rows
theorem rA:∀(ns:List Int) (vs:List Value),WellAll P h vs (ns.map WData.int)->IntsAre vs ns:=by
 intro ns;induction ns with
 |nil =>
  intro vs w;rw[zbK] at w;cases w;exact .nil
 |cons n ns ih =>
  intro vs w;rw[zas] at w;cases w with
  |cons a b =>
   cases a;exact .cons _ _ (ih _ b)
theorem Iw {l:OpenLaw}{n:Nat}(hn:l.most=some n){P:Params}{h:Heap}{args:List WData}{ZP:List Value}
  (Rj:l.row.toRowW.claim.pre args=true) (hwl:WellAll P h ZP args):
  ∃a vs ns,ZP=[Value.ref a]/\args=[WData.list (ns.map WData.int)]/\h.get? a=some { cls:=.type "list",data:=.seq vs.toArray}/\IntsAre vs ns/\ns.length<=n:=by
 have hsh:WShape.hasAll [] args [.list .int]=true:=(pre_splitW Rj).1
 have hc:l.pre.holds [] {args:=args}=true:=(pre_splitW Rj).2
 obtain⟨d,r,rfl,h1,h2⟩:=hasAllW_cons hsh;obtain rfl:=hasAllW_nil h2
 obtain⟨xs,rfl,h3⟩:=hasW_list h1;obtain⟨ns,rfl⟩:=items_int h3;have dB:ns.length<=n:=by
  unfold OpenLaw.pre at hc;have h4:(WTm.not (.lt (.lit (.int (n:Int))) (.len (.arg 0)))).holds [] {args:=[.list (ns.map .int)]}=true:=by
   have h4:=(holds_andW hc).1
   rw[hn] at h4;exact h4
  have h5:=condW_of h4 (w_not (w_lt w_lit (w_len_list (w_arg rfl))))
  rw[zae] at h5;refine Nat.le_of_not_lt λq=>?_
  have q':(n:Int)<((ns.length:Nat):Int):=by omega
  first
   | (rw[decide_eq_true q'] at h5;exact absurd h5 (by decide))
   | (simp at h5;omega)
 cases hwl with
 |cons w1 w2 =>
  cases w2;cases w1 with
  |list ho K8=>exact⟨_,_,ns,rfl,rfl,ho,rA ns _ K8,dB⟩
theorem Iz (l:OpenLaw)(args:List WData):l.row.toRowW.claim.post args (.bool true) args=true:=
 postW_of (r:=l.row.toRowW) (X:=(true == true))
  (show WShape.has [] (.bool true) .bool=true by first|rfl|decide|simp[WShape.has,WShape.arms,WShape.armsAll])
  (show (WTm.eq .res (.lit (.bool true))).value [] {args:=args,res:=some (.bool true),after:=args}=some (.bool (true == true)) from w_eq_bool (w_res rfl) w_lit) rfl
theorem AY {l:OpenLaw}{n:Nat}{q:Program}{wM:List Str}{XP:(Str->Option Value)->Heap->Prop}{YP:World->Heap->Prop}{d:DefRec}
  (hn:l.most=some n) (hdf:d.params.defaults=[])
  (call:∀(w:World) (s₀ cM:Shared) (mg mb:Str->Option Value) (fa:Addr) (o:Obj) (pm cd nK:Value) (a:Addr) (vs:List Value) (ns:List Int),
   Ground q wM [] XP w s₀ mg mb cM.heap->YP w cM.heap ->
   cM.heap.get? fa=some o->o.data = .func (docDef d.name d.params d.body d.scope pm cd nK)->cM.heap.CodeRec cd d.name->mg d.name=some (.ref fa) ->
   cM.heap.get? a=some { cls:=.type "list",data:=.seq vs.toArray}->IntsAre vs ns->ns.length<=n->cM.gens = #[] ->
   codeAny (model l.prog w) callerA (.call (.ref fa) ⟨[.ref a],[]⟩) (λr s'=>r = .ok (.ret (.bool true))/\OldK cM.heap s'.heap/\s'.os=cM.os/\AllBare s'.gens) cM):
  WalkO q wM XP YP l.row.toRowW d [] (λf vs=>PySem.call f vs):=by
 intro w s₀ cM mg mb G Y fa o pm cd nK dV kV ho hd AI hD hmg hg args ZP as Rj aqa hrd hwl hlo;obtain rfl:dV = .none:=Dflts.none hD hdf
 obtain rfl:kV = .none:=Dflts.noKw hD
 obtain⟨a,vs,ns,rfl,rfl,ZQ,Lj,dB⟩:=Iw hn Rj hwl;refine enter_call (zcw (call w s₀ cM mg mb fa o pm cd nK a vs ns G Y ho (fd_plain hd) AI hmg ZQ Lj dB hg) λr s' hq=>?_)
 obtain⟨rfl,h2,h3,h4⟩:=hq;exact⟨.inl ⟨.bool true,.bool true,[],rfl,λ_=>rfl,.bool true,Iz l _,λ_=>⟨List.Pairwise.nil,λ_ hm=>(nomatch hm)⟩⟩,h2,h3,h4⟩
section
variable {prog:Program}{w:World}{A:Around}{E:Value->Shared->Prop}{s:Shared}{K:Frag}
end
end Att
namespace L2
open PySem PySem.Spec PyProof.Rows
theorem wN:∀{vs:List Value} {ns:List Int},IntsAre vs ns->bL (ns.map V.int) vs
 |_,_,.nil=>.nil
 |_,_,.cons n t h=>.cons ⟨t,rfl⟩ (wN h)
noncomputable def aR (H:Hp):Prop:=∀b,H b=none\/∃o xs,H b=some (.pP o (.bM xs))
theorem Lk {P:Program}{w:World}{K:PySem.W.Frag}{mg mb:Str->Option Value}{CX:AM}{k:Nat}{fa a:Addr}{fd:FuncData}{x:Str}{sp:Sp}{cM:Shared}{vs:List Value}{ns:List Int}
  (KX:K.In cM.heap) (Kf:cM.heap.Ns mainGlobals mg) (hb:cM.heap.Ns builtinsNs mb) (hbb:∀x:Str,x ≠ "__name__" -> mb x=bootBuiltins x) (alF:cM.heap.NoLimit) (hg:cM.gens = #[])
  (ha:cM.heap.get? a=some { cls:=.type "list",data:=.seq vs.toArray}) (hi:IntsAre vs ns) (hl:ns.length<=sizeLine) (hr:gH k callerA)
  (F:∀base:Heap,K.In base->base.Ns mainGlobals mg->aN P w K mg base CX k fa fd [x] sp) (ags:∀(s:Shared) (u:Value),BindsTo s fd ⟨[u],[]⟩ [(x,u)])
  (Kd:∀H:Hp,aR H->jk K H a (ns.map V.int)->sp [.ref a] H (λv _=>v = .bl true) λ_ _ _=>False)
  (hCX:∀H e s',CX [] H cM (λ_ _ _=>False) e s'->False):
  codeAny (model P w) callerA (.call (.ref fa) ⟨[.ref a],[]⟩) (λr s'=>r = .ok (.ret (.bool true))/\OldK cM.heap s'.heap/\s'.os=cM.os/\AllBare s'.gens) cM:=by
 have rv:=wN hi;have alH:=hi.length;-- from an abstract heap in aow akj but Dn Kr may be oq
 have IA:∀H:Hp,aR H->jk K H a (ns.map V.int)->mS P w H cM.heap->(∀b,H b≠none->b=a)->(H a≠none->K.lookup a=none) ->
   codeAny (model P w) callerA (.call (.ref fa) ⟨[.ref a],[]⟩) (λr s'=>r = .ok (.ret (.bool true))/\OldK cM.heap s'.heap/\s'.os=cM.os/\AllBare s'.gens) cM:=by
  intro H hO hS b_ hA hK;have F1:∀{b:Addr} {o:Obj},cM.heap.get? b=some o->H b=none->(yT cM.heap H).get? b=some o:=λe n=>Ks e n
  have noA:∀{b:Addr} {o:Obj} {es:Array DictEntry} {ep:Nat},cM.heap.get? b=some o->o.data = .dict es ep->H b=none:=λ{b o es ep} e d=>by
   cases q:H b with
   |none=>rfl
   |some u =>
    have e':b=a:=hA b (by rw[q];simp)
    subst e';rw[ha] at e;cases e
    have d':Data.seq vs.toArray _=Data.dict es ep:=d
    cases d'
  have nsK:∀{b:Addr} {m:Str->Option Value},cM.heap.Ns b m->(yT cM.heap H).Ns b m:=λ{b m} ⟨o,es,ep,e,d,r⟩=>⟨o,es,ep,F1 e (noA e d),d,r⟩
  have hKb:K.In (yT cM.heap H):=λb o e=>F1 (KX b o e) (by
   cases q:H b with
   |none=>rfl
   |some u =>
    have e':b=a:=hA b (by rw[q];simp)
    subst e';rw[hK (by rw[q];simp)] at e;cases e)
  have hM:Mod K mg (yT cM.heap H):=⟨hKb,nsK Kf,⟨mb,nsK hb,hbb⟩,let ⟨mc,h1,h2⟩:=alF;⟨mc,nsK h1,h2⟩⟩
  have e0:DF P w K mg (yT cM.heap H) callerA [] cM H:=⟨rfl,hM,λb o e=>Qv e,Nat.le_of_eq (H_ _ _),trivial,λb hb=>absurd (show b∈([]:List Addr) from hb) (by simp),b_,.of_eq hg⟩
  refine zcw ((F _ hKb (nsK Kf)).kj callerA [] cM H ⟨[.ref a],[]⟩ [.ref a] [.ref a] _ _ hr e0 (ags cM (.ref a)) (.cons rfl .nil) (Kd H hO hS)) λr s' h=>?_
  cases r with
  |error e=>exact (hCX H e s' h).elim
  |ok fl =>
   cases fl with
   |next=>exact False.elim h
   |brk=>exact False.elim h
   |cont=>exact False.elim h
   |ret u =>
    obtain⟨v,H',os,g5,un,alI,r',q⟩:=h;have q':v = .bl true:=q
    subst q';obtain rfl:u=Value.bool true:=r'
    refine⟨rfl,OldK.of_keep λb o e=>?_,os,g5⟩
    cases q:H b with
    |none=>exact un.keep b o e q (by intro z;exact absurd (show b∈([]:List Addr) from z) (by simp)) (by simp)
    |some u =>
     rcases hO b with z|⟨ob,xs,z⟩
     ·rw[q] at z;cases z
     ·have z2:=un.q_ b ob _ z
      obtain⟨e1,_⟩:=b_ b _ z;obtain⟨e2,_⟩:=alI b _ z2;rw[e] at e1;cases e1
      exact e2
 cases hk:K.lookup a with
 |some o =>
  -- Dn Kr is HZ of Dn agt sD QG
  have e:=KX a o hk;rw[ha] at e;cases e;refine IA (λ_=>none) (λ_=>.inl rfl) (.inr ⟨_,vs.toArray,_,hk,rfl,rfl,rfl,by rw[zao,alH];exact hl,by simpa using rv⟩) (λb u z=>by have z':(none:Option HO)=some u:=z;cases z') (λb z=>absurd rfl z) λz=>absurd rfl z
 |none =>
  refine IA (λb=>if b=a then some (.pP { cls:=.type "list",data:=.seq vs.toArray} (.bM (ns.map V.int))) else none) (λb=>?_) (.inl (.inr ⟨{ cls:=.type "list",data:=.seq vs.toArray},if_pos rfl⟩)) (λb u z=>?_) (λb z=>?_) λ_=>hk
  ·by_cases hb:b=a
   ·exact .inr ⟨_,_,if_pos hb⟩
   ·exact .inl (if_neg hb)
  ·by_cases hb:b=a
   ·have z':=(if_pos hb).symm.trans z
    cases z';subst hb;exact⟨ha,by rw[zae];exact hl,vs,_,rv,ha⟩
   ·have z':=(if_neg hb).symm.trans z
    cases z'
  ·by_cases hb:b=a
   ·exact hb
   ·exact absurd (if_neg hb) z
theorem Rk {l:PySem.W.OpenLaw}{n k:Nat}{q:Program}{wM:List Str}{XP:(Str->Option Value)->Heap->Prop}{YP:World->Heap->Prop}{d:DefRec}{K:Params->PySem.W.Frag}{CX:World->AM}{sp:World->Sp}{x:Str}
  (hn:l.most=some n) (Ka:n<=sizeLine) (hdf:d.params.defaults=[]) (hr:gH k callerA)
  (hY:∀(w:World) (h:Heap),YP w h->(K w.params).In h)
  (F:∀(w:World) (mg:Str->Option Value) (fa:Addr) (h:Heap),(K w.params).In h->h.Ns mainGlobals mg->mg d.name=some (.ref fa) ->
   ∃fd:FuncData,(∀(s:Shared) (u:Value),BindsTo s fd ⟨[u],[]⟩ [(x,u)]) /\
    ∀base:Heap,(K w.params).In base->base.Ns mainGlobals mg->aN l.prog w (K w.params) mg base (CX w) k fa fd [x] (sp w))
  (Kd:∀(w:World) (H:Hp) (a:Addr) (ns:List Int),ns.length<=n->aR H->jk (K w.params) H a (ns.map V.int)->sp w [.ref a] H (λv _=>v = .bl true) λ_ _ _=>False)
  (hCX:∀(w:World) (H:Hp) (s:Shared) (e:Value) (s':Shared),CX w [] H s (λ_ _ _=>False) e s'->False):
  PySem.W.WalkO q wM XP YP l.row.toRowW d [] (λf vs=>PySem.call f vs):=by
 refine Att.AY hn hdf λw s₀ cM mg mb fa o pm cd nK a vs ns G Y ho hd AI hmg ZQ Lj dB hg=>?_
 have KX:=hY w _ Y;obtain⟨fd,hb,hF⟩:=F w mg fa _ KX G.T.g hmg;exact Lk KX G.T.g G.T.b G.T.builtins G.T.nolimit hg ZQ Lj (zai dB Ka) hr hF hb (λH hO hS=>Kd w H a ns dB hO hS) λH e s'=>hCX w H cM e s'
noncomputable def aM (s:Stmt)(j:Nat):Stmt:=match s with
 |.ClassDef _ _ _ body _ _ _ _ _ _ _=>body.getD j (.Pass ⟨0,0,0,0⟩)
 |_=>.Pass ⟨0,0,0,0⟩
noncomputable def d_ (s:Stmt):Arguments:=match s with
 |.FunctionDef _ a _ _ _ _ _ _ _ _=>a
 |_=>{posonlyargs:=[],args:=[],vararg:=none,kwonlyargs:=[],kw_defaults:=[],kwarg:=none,defaults:=[]}
noncomputable def cS (s:Stmt):List Stmt:=match s with
 |.FunctionDef _ _ b _ _ _ _ _ _ _=>b
 |_=>[]
noncomputable def aj (s:Stmt):Scope:=match s with
 |.FunctionDef _ _ _ _ _ _ sc _ _ _=>sc
 |_=>{kind:=.function,names:=[],isGenerator:=false,isCoroutine:=false}
noncomputable abbrev dJ:AM:=λ_ _ _ _ _ _=>False
noncomputable abbrev E0:XK:=λ_ _ _=>False
structure Ll (K:PySem.W.Frag) (x bW:Str) (st:Stmt) (f:Addr) (fd:FuncData):Prop where
 ex:∃(oc:Value) (od:Option Addr) (kV nK pm:Value) (an:Option Addr) (eZ ct:Value) (DH:Array (Option Value)),
  fd=PySem.W.fnOf x bW (d_ st) (cS st) (aj st) .none kV nK pm an eZ ct/\K.lookup f=some ⟨oc,od,.func fd,DH⟩/\PySem.W.codeIn K eZ bW=true
 kp:PySem.W.keepIn K (.ref f)=true
section
variable {P:Program}{w:World}{K:PySem.W.Frag}{mg:Str->Option Value}{base:Heap}
theorem Ll.ok {x bW:Str}{st:Stmt}{f:Addr}{fd:FuncData}{N ps:List Str}{k:Nat}{sp:Sp}(F:Ll K x bW st f fd)(S:aq N ps (aj st))(len:∀vs H Q E,sp vs H Q E->vs.length=ps.length)
  (sU:∀(eZ:Value) (A:Around) (outer:List Env) (s:Shared) (H:Hp) (vs:List V) (Q:VK) (E:XK),gH k (A.deeper (envOfC bW (aj st) s.heap.objs.size f eZ))->sp vs H Q E ->
   ∃t,wC (ic dJ P w K mg base N bW (aj st) f eZ A outer s H E).C_ (cS st) t/\t {nx:=λ_ H'=>Q .br H',rt:=Q} (dg N vs) H):aN P w K mg base dJ (k+1) f fd ps sp:=by
 obtain⟨oc,od,kV,nK,pm,an,eZ,ct,DH,rfl,lk,AI⟩:=F.ex;refine K3 lk AI S len λA outer s H vs Q E hr Kd=>?_
 obtain⟨t,h,q⟩:=sU eZ A outer s H vs Q E hr Kd;exact⟨t,h.C_,q⟩
theorem Ll.qL {x bW:Str}{st:Stmt}{f:Addr}{fd:FuncData}{ps:List Str}(F:Ll K x bW st f fd)
  (h:∀(kV nK pm:Value) (an:Option Addr) (eZ ct:Value) (us:List Value),us.length=ps.length->bindArgs (PySem.W.fnOf x bW (d_ st) (cS st) (aj st) .none kV nK pm an eZ ct) ⟨us,[]⟩=pure (ps.zip us)):d8 K fd ps []:=by
 obtain⟨oc,od,kV,nK,pm,an,eZ,ct,DH,rfl,lk,AI⟩:=F.ex;exact .all (h kV nK pm an eZ ct)
theorem zk {x bW:Str}{st:Stmt}{f:Addr}{oc:Value}{od an:Option Addr}{DH:Array (Option Value)}{kV nK pm eZ ct:Value}(l:K.lookup f=some ⟨oc,od,.func (PySem.W.fnOf x bW (d_ st) (cS st) (aj st) .none kV nK pm an eZ ct),DH⟩)
  (c:PySem.W.codeIn K eZ bW=true) (k:PySem.W.keepIn K (.ref f)=true):Ll K x bW st f (PySem.W.fnOf x bW (d_ st) (cS st) (aj st) .none kV nK pm an eZ ct):=⟨⟨oc,od,kV,nK,pm,an,eZ,ct,DH,rfl,l,c⟩,k⟩
end
theorem pv (i:Nat)(hN:autoParam (X.N[i]? = some x) zp_0)(hv:autoParam (Vis X.env.scope x) zp_7)(hd:autoParam ((x == ("__debug__" : Str))=false) zp_1)
  (AI:autoParam ((x == ("__classdict__" : Str))=false) zp_1):PE X (.Name x pos) (afy i):=Kz hN hv hd AI
theorem IB:jJ X (.builtin "len") (λxs H Q=>∃a aO,xs=[V.ref a]/\H a=some (.dK aO)/\Q (.int aO.length) H):=by
 intro ah s σ H xs us Q I r h;obtain⟨a,aO,rfl,ha,q⟩:=h;obtain⟨u,rfl,ru⟩:=sP r;cases ru;exact aga I (.inl ha) λt s' I'=>⟨.int aO.length,H,I',⟨t,rfl⟩,q⟩
theorem AZ {A B:Prop}(h:B):if false=true then A else B:=by
 rw[if_neg zal];exact h
theorem A0 {A B:Prop}(h:A):if true=true then A else B:=by
 rw[if_pos rfl];exact h
section
variable {κ:Type}[DecidableEq κ]
end
noncomputable def oJ (env:Env):List (Str×NameKind)->List (Str×Addr)->List (Str×Addr)
 |[],cs=>cs
 | (n,k)::r,cs=>oJ env r (if (k == NameKind.free)=true then (match env.cells.lookup n with|some c=>(n,c)::cs|none=>cs) else cs)
theorem DP (h:∀p∈scope.names,p.2 = .free->∃c,env.cells.lookup p.1=some c):closureFor scope env=pure (oJ env scope.names []):=by
 have key:∀(l:List (Str×NameKind)) (cs:List (Str×Addr)),(∀p∈l,p.2 = .free->∃c,env.cells.lookup p.1=some c) ->
   (forIn l cs λ(x:Str×NameKind) (r:List (Str×Addr))=>match x with
    | (name,kind)=>if (kind == NameKind.free)=true then do let a <-cellOf env name;pure (ForInStep.yield ((name,a)::r)) else pure (ForInStep.yield r):Sem (List (Str×Addr)))=pure (oJ env l cs):=by
  intro l;induction l with
  |nil=>intro cs _;rfl
  |cons p r ih =>
   intro cs hl;obtain⟨n,k⟩:=p;rw[List.forIn_cons];have hr:=λcs=>ih cs λq hq=>hl q (zaO _ hq)
   show (_ >>= _)=pure (oJ env r (if (k == NameKind.free)=true then (match env.cells.lookup n with|some c=>(n,c)::cs|none=>cs) else cs))
   by_cases hk:(k == NameKind.free)=true
   ·obtain⟨c,hc⟩:=hl (n,k) zbJ (by simpa using hk)
    dsimp only at hc ⊢
    rw[if_pos hk,if_pos hk,hc];have e:cellOf env n=pure c:=by unfold cellOf;rw[hc]
    rw[e,pure_bind,pure_bind];exact hr _
   ·dsimp only
    rw[if_neg hk,if_neg hk,pure_bind];exact hr _
 unfold closureFor;rw[show (pure (oJ env scope.names []):Sem (List (Str×Addr)))=(pure (oJ env scope.names []) >>= λr=>pure r) from (bind_pure _).symm,<-key scope.names [] h]
theorem l5:∀{l:List (Str×NameKind)} {cs:List (Str×Addr)},(oJ env l cs).lookup x=some c->cs.lookup x=some c\/env.cells.lookup x=some c
 |[],_,h=>.inl h
 | (n,k)::r,cs,h=>by
  rcases l5 (l:=r) h with q|q
  ·by_cases hk:(k == NameKind.free)=true
   ·rw[if_pos hk] at q
    cases e:env.cells.lookup n with
    |none=>rw[e] at q;exact .inl q
    |some d =>
     rw[e] at q;dsimp only at q
     rw[zaP] at q;cases hx:x == n with
     |true =>
      rw[hx] at q;have:x=n:=by simpa using hx
      subst this;dsimp only at q
      rw[<-q];exact .inr e
     |false=>rw[hx] at q;exact .inl q
   ·rw[if_neg hk] at q;exact .inl q
  ·exact .inr q
theorem sY:∀{l:List (Str×NameKind)} {cs:List (Str×Addr)},((x,NameKind.free)∈l/\(∃c,env.cells.lookup x=some c))\/(∃c,cs.lookup x=some c)->∃c,(oJ env l cs).lookup x=some c
 |[],cs,h=>by
  rcases h with⟨h,_⟩|h
  ·exact absurd h (by simp)
  ·exact h
 | (n,k)::r,cs,h=>by
  refine sY (l:=r) ?_
  rcases h with⟨h,hc⟩|h
  ·rcases zan.mp h with e|h
   ·have e1:x=n:=congrArg (·.1) e
    have e2:NameKind.free=k:=congrArg (·.2) e
    subst e1 e2;obtain⟨c,hc⟩:=hc;refine .inr ⟨c,?_⟩
    rw[if_pos (by decide),hc]
    simp[zaP]
   ·exact .inl ⟨h,hc⟩
  ·obtain⟨c,hc⟩:=h
   right
   by_cases hk:(k == NameKind.free)=true
   ·rw[if_pos hk]
    cases e:env.cells.lookup n with
    |none=>exact⟨c,hc⟩
    |some d =>
     dsimp only;rw[zaP];cases hx:x == n with
     |true=>exact⟨d,rfl⟩
     |false=>exact⟨c,hc⟩
   ·rw[if_neg hk];exact⟨c,hc⟩
theorem kr {env:Env}:∀{names:List (Str×NameKind)} {k:NameKind},
  (names.map λ(p:Str×NameKind)=>match p with | (n,k)=>if (k == NameKind.free && env.scope.kind == .function && env.kindOf n == some .cell)=true then (n,NameKind.cell) else (n,k)).lookup x=some k ->
  ∃k',names.lookup x=some k'/\(k'=k\/(k' = .free/\k = .cell))
 |[],_,h=>by simp at h
 | (n,k0)::r,k,h=>by
  rw[zas] at h;by_cases hc:(k0 == NameKind.free && env.scope.kind == .function && env.kindOf n == some .cell)=true
  ·dsimp only at h
   rw[if_pos hc,zaP] at h;rw[zaP];cases hx:x == n with
   |true =>
    rw[hx] at h;have e:NameKind.cell=k:=zav h
    have e0:k0 = .free:=by
     simp only[zbe,beq_iff_eq] at hc;exact hc.1.1
    exact⟨k0,rfl,.inr ⟨e0,e.symm⟩⟩
   |false=>rw[hx] at h;exact kr (names:=r) h
  ·dsimp only at h
   rw[if_neg hc,zaP] at h;rw[zaP];cases hx:x == n with
   |true=>rw[hx] at h;exact⟨k0,rfl,.inl (zav h)⟩
   |false=>rw[hx] at h;exact kr (names:=r) h
theorem ku {env:Env}:∀{names:List (Str×NameKind)},names.lookup x=some .free ->
  (names.map λ(p:Str×NameKind)=>match p with | (n,k)=>if (k == NameKind.free && env.scope.kind == .function && env.kindOf n == some .cell)=true then (n,NameKind.cell) else (n,k)).lookup x=some .cell \/
  (names.map λ(p:Str×NameKind)=>match p with | (n,k)=>if (k == NameKind.free && env.scope.kind == .function && env.kindOf n == some .cell)=true then (n,NameKind.cell) else (n,k)).lookup x=some .free
 |[],h=>by simp at h
 | (n,k0)::r,h=>by
  rw[zas];rw[zaP] at h;by_cases hc:(k0 == NameKind.free && env.scope.kind == .function && env.kindOf n == some .cell)=true
  ·dsimp only
   rw[if_pos hc,zaP];cases hx:x == n with
   |true=>exact .inl rfl
   |false=>rw[hx] at h;exact ku (names:=r) h
  ·dsimp only
   rw[if_neg hc,zaP];cases hx:x == n with
   |true=>rw[hx] at h;exact .inr h
   |false=>rw[hx] at h;exact ku (names:=r) h
theorem zl (I:Nat->Shared->Prop)
  (KJ:∀n s,I n s->wpAny (model prog w) A (pyNext it) (λr cM=>match r with
   |none=>R (.ok .next) cM
   |some v=>wpAny (model prog w) A (letOwnedTupleGo target it v) (λ_ Vg=>wpAny (model prog w) A (assign target env v) (λ_ lV =>
     wpAny (model prog w) A (forIn rB true λc r=>if r=true then do let ok <-isTrue c env (eval c env);pure (ForInStep.yield ok) else pure (ForInStep.yield r)) (λok vY =>
      if ok=true then wpAny (model prog w) A (eval v8 env) (λx agu =>
       wpAny (model prog w) A (call (.builtin "list.append") [cA,x]) (λ_ agv=>∃m,m<n/\I m agv) (notedBy (model prog w) A env λe s'=>R (.error e) s') agu) (notedBy (model prog w) A env λe s'=>R (.error e) s') vY
      else ∃m,m<n/\I m vY) (notedBy (model prog w) A env λe s'=>R (.error e) s') lV) (notedBy (model prog w) A env λe s'=>R (.error e) s') Vg) (notedBy (model prog w) A env λe s'=>R (.error e) s') cM) (notedBy (model prog w) A env λe s'=>R (.error e) s') s)
  (n:Nat) (h:I n s):
  codeAny (model prog w) A (.compLoop (.ListComp v8 [⟨target,d9,rB,0⟩] scope pos) 0 it cA env) R s:=by
 refine codeAny_loop rfl I (λn s hI=>?_) n h
 show wpAny _ A ((compTurn (.ListComp v8 [⟨target,d9,rB,0⟩] scope pos) 0 it cA env).onRaise (λx=>do noteFrame x env;theTreesLotGoes x)) _ _ s
 refine wpAny_noted ?_
 rw[compTurn_list];refine zaa (zcI (zaa (zaH (KJ n s hI) (λr cM Q0=>?_) λ_ _ h'=>h')))
 cases r with
 |none=>exact zaf Q0
 |some v =>
  refine zaa (zaH Q0 (λ_ Vg agw=>?_) λ_ _ h'=>h')
  refine zaa (zaH agw (λ_ lV K5=>zaa (zaH K5 (λok vY Q2=>?_) λ_ _ h'=>h')) λ_ _ h'=>h')
  cases ok with
  |false=>exact zaf ⟨rfl,Q2⟩
  |true =>
   exact zaa (zaa (zaH Q2 (λx agu alJ=>zaa (zaH alJ (λ_ agv alK=>zaf (zaf ⟨rfl,alK⟩)) λ_ _ h'=>h')) λ_ _ h'=>h'))
noncomputable def qP (X:Cx)(N:List Str)(sc:Scope)(C:Addr)(fp:List Addr)(s:Shared)(H:Hp)(xe:Value->Shared->Prop):Cx:=
 {X with N:=N,s₀:= s,H₀:= H,env:=compEnvC sc (oJ X.env sc.names []) C X.env,outer:=X.c_,ex:=fp,fn:=λ_=>false,pn:=[],xe:=xe}
noncomputable def DQ (X:Cx)(rB:List Expr)(t:TT):Prop:=
 ∀(ah:List (Addr×Obj)) (s:Shared) (σ:St) (H:Hp) (Q:Bool->Hp->Prop),aL X ah σ H s->t σ H Q ->
  wpAny (model X.prog X.w) X.A (forIn rB true λc r=>if r=true then do let ok <-isTrue c X.env (eval c X.env);pure (ForInStep.yield ok) else pure (ForInStep.yield r)) (TP X ah σ Q) X.xe s
noncomputable def agx:TT:=λ_ H Q=>Q true H
theorem Rl:DQ X [] agx:=λah s σ H Q I h=>wpAny_tests_nil ⟨H,I,h⟩
theorem Rm (h:PT X c t):DQ X [c] t:=λah s σ H Q I q=>wpAny_tests_one (h ah s σ H Q I q)
structure dD (X:Cx) (F T:List Str) (fr:List Nat) (sc:Scope):Prop where
 kind:sc.kind = .function
 Ln:∀y∈sc.names,y.2 ≠ .cell
 locals:∀y∈sc.names,y.2 = .local->sc.names.lookup y.1=some .local
 Lo:∀y∈sc.names,y.2 = .free->X.env.kindOf y.1=some .cell
 ZR:∀x∈F,sc.names.lookup x=some .free
 eqs:fr.map (λj=>X.N[j]?)=F.map some
theorem dD.len (S:dD X F T fr sc):fr.length=F.length:=by
 have:=congrArg List.length S.eqs
 simpa using this
theorem dD.rq (S:dD X F T fr sc)(i:Nat)(x:Str)(h:F[i]? = some x):∃j,fr[i]? = some j/\X.N[j]? = some x:=by
 have e:=congrArg (λl=>l[i]?) S.eqs
 simp only[zaq,h,zct] at e;cases q:fr[i]? with
 |none=>rw[q] at e;cases e
 |some j=>rw[q] at e;exact⟨j,rfl,zav e⟩
noncomputable def kC (fr:List Nat)(T:List Str)(σ:St):St:=(fr.map λj=>(σ[j]?).join)++T.map λ_=>none
noncomputable def F5 (wi:TI)(fr:List Nat)(T:List Str)(g:TG)(ti:TT)(te:TE):TE:=λσ H Q=>wi σ H λJ H1=>∀D,H1 D=none ->
  ∃W:Nat->Nat->St->List V->Hp->Prop,(∃m,W 0 m (kC fr T σ) [] (bF H1 D (.bM [])))/\∀i m d7 xs H',W i m d7 xs H'->H' D=some (.bM xs) /\
    ((J.stop i H'/\Q (.ref D) H')\/(J.go i H'/\∃N:St->List V->Hp->Prop,(∀Az ys H2,N Az ys H2->∃m',m' < m/\W (i+1) m' Az ys H2)/\∀x H2,J.yld i H' x H2->g x d7 H2 λAz H3=>ti Az H3 λb H4 =>
      if b=true then te Az H4 λv H5=>H5 D=some (.bM xs)/\xs.length<sizeLine/\N Az (xs++[v]) (bF H5 D (.bM (xs++[v]))) else N Az xs H4))
theorem ZS (S:dD X F T fr sc)(I:aL X ah σ H s)
  (Vh:∀b∈fp,pV X ah H b) (hfo:∀b∈fp,b<s.heap.objs.size):(qP X (F++T) sc s.heap.objs.size fp s H xe).Ok:=by
 have cl:∀x c,(oJ X.env sc.names []).lookup x=some c->X.env.cells.lookup x=some c:=λx c e=>(l5 e).resolve_left (by simp)
 refine⟨I.ok.sH,?_,I.ok.sG,I.ok.U6,zah _,λx y c h1 h2=>I.ok.inj x y c (cl _ _ h1) (cl _ _ h2),λx hx=>?_,λ_ _ h=>?_,I.ok.hd,I.ok.frames,.inl rfl,λb hb=>⟨zar (hfo b hb),λx c e=>(Vh b hb).2.2.2.2.1 x c (cl _ _ e)⟩,I.bs,zai I.ok.Qj I.sz,λb o e hb=>?_,λb hb=>?_,I.c_,I.FA⟩
 ·show (relabel sc X.env).kind=_
  exact S.kind
 ·have Vi:∃k,(relabel sc X.env).names.lookup x=some k/\(k = .cell\/k = .free):=by
   rcases hx with h|h
   ·exact⟨_,h,.inl rfl⟩
   ·exact⟨_,h,.inr rfl⟩
  obtain⟨k,hk,hkk⟩:=Vi;obtain⟨k',h1,h2⟩:=kr (env:=X.env) hk
  have hf:k' = .free:=by
   rcases h2 with h2|h2
   ·rcases hkk with z|z
    ·exact absurd (by rw[h2,z]) (S.Ln _ (zaW h1))
    ·rw[h2,z]
   ·exact h2.1
  rw[hf] at h1;have hm:=zaW h1;refine sY (.inl ⟨hm,?_⟩)
  exact I.ok.has x (.inl (S.Lo _ hm rfl))
 ·exact absurd h (by show ¬ (false=true);decide)
 ·rcases (Vh b hb).2.2.2.1 with z|z
  ·exact I.ok.jf b o e z
  ·exact absurd (zak (zam (I.ok.bs b o e).1) z) (zaJ _)
 ·intro z
  rcases zan.mp (I.Dq b z) with q|q
  ·exact (Vh b hb).2.1 q
  ·exact (Vh b hb).2.2.1 q
theorem Lp (S:dD X F T fr sc)(I:aL X ah σ H s)
  (Vh:∀b∈fp,pV X ah H b) (hfo:∀b∈fp,b<s.heap.objs.size) (hn:h4.Ns s.heap.objs.size m) (k:∀b o,s.heap.get? b=some o->h4.get? b=some o):
  aL (qP X (F++T) sc s.heap.objs.size fp s H xe) [] (kC fr T σ) H {s with heap:=h4,toks:=tk}:=by
 have cl:∀x c,(oJ X.env sc.names []).lookup x=some c->X.env.cells.lookup x=some c:=λx c e=>(l5 e).resolve_left (by simp)
 refine⟨ZS S I Vh hfo,rfl,I.g5,Un.gZ k,⟨m,hn,λi x v h1 h2 h3=>?_⟩,λx c e=>?_,I.b_.fresh (zah _),λx c e=>I.jG x c (cl _ _ e),λp hp=>absurd (show p∈([]:List (Addr×Obj)) from hp) (by simp),I.b_.gZ k,?_⟩
 ·have hi:i<fr.length:=by
   unfold kC at h2;by_cases hi:i<fr.length
   ·exact hi
   ·rw[zat (by simpa using hi),zaq] at h2
    cases q:T[i - (fr.map λj=>(σ[j]?).join).length]? with
    |none=>rw[q] at h2;cases h2
    |some y=>rw[q] at h2;cases h2
  have hF:F[i]? = some x:=by
   have h1:(F++T)[i]? = some x:=h1
   rw[zaj (by rw[<-S.len];exact hi)] at h1
   exact h1
  obtain⟨j,hj,hx⟩:=S.rq i x hF;have hv:σ[j]? = some (some v):=by
   unfold kC at h2;rw[zaj (by simpa using hi),zaq,hj] at h2
   have h2:some (σ[j]?).join=some (some v):=h2
   have h2:=zav h2;cases q:σ[j]? with
   |none=>rw[q] at h2;cases h2
   |some y=>rw[q] at h2;have h2:y=some v:=h2;rw[h2]
  have alM:x∈F:=zaV hF
  have wB:=S.ZR x alM;have AJ:X.env.kindOf x=some .cell:=S.Lo _ (zaW wB) rfl
  obtain⟨m0,_,hl⟩:=I.Ay;obtain⟨u,ru,lk⟩:=hl j x v hx hv (.inr (.inl AJ))
  refine⟨u,ru,.inr ⟨ku (env:=X.env) wB,?_⟩⟩
  rcases lk with⟨z,_⟩|⟨_,c,hc,hic⟩
  ·rw[AJ] at z;cases z
  ·obtain⟨c',Qw⟩:=sY (env:=X.env) (x:=x) (l:=sc.names) (cs:=[]) (.inl ⟨zaW wB,c,hc⟩)
   have e:c'=c:=by have:=cl _ _ Qw;rw[hc] at this;exact (zav this).symm
   subst e;obtain⟨o,ho,hd⟩:=hic;exact⟨c',Qw,o,k _ _ ho,hd⟩
 ·obtain⟨v,o,ho,hd⟩:=I.cell x c (cl _ _ e)
  exact⟨v,o,k _ _ ho,hd⟩
 ·show (kC fr T σ).length=(F++T).length
  unfold kC;rw[zag,zag,zae,zae,S.len]
theorem A1 (S:dD X F T fr sc)(hc:X.fX=true)(hi:PI X target d9 wi)
  (hg:∀C fp s H xe,PG (qP X (F++T) sc C fp s H xe) target g) (Rn:∀C fp s H xe,DQ (qP X (F++T) sc C fp s H xe) rB ti) (he:∀C fp s H xe,PE (qP X (F++T) sc C fp s H xe) v8 te)
  (hs:∀x,foldedSetIterable d9 X.env x=pure x) {ah:List (Addr×Obj)} {s:Shared} {σ:St} {H:Hp} {Q:VK} {use:Option (Value->Sem Unit)} {QQ:Value->Shared->Prop} (I:aL X ah σ H s) (h:F5 wi fr T g ti te σ H Q)
  (eO:∀(D C:Addr) (fp:List Addr) (s3 s7:Shared) (H3 H6:Hp) (xe:Value->Shared->Prop) (KL:St),aL X ah σ H3 s3->(∀b∈fp,pV X ah H3 b)->s3.heap.objs.size=C->aL (qP X (F++T) sc C fp s3 H3 xe) [] KL H6 s7->Q (.ref D) H6->compPost (model X.prog X.w) X.A X.xe use QQ (.ref D) C (.ok .next) s7):
  wpAny (model X.prog X.w) X.A (comprehension (.ListComp v8 [⟨target,d9,rB,0⟩] sc pos) sc X.env g7 (newList []) false (eval d9 X.env) use) QQ X.xe s:=by
 refine wpAny_comprehension_free rfl hs (DP λp hp hf=>?_) S.kind S.locals ?_
 ·exact I.ok.has p.1 (.inl (S.Lo p hp hf))
 refine cQ (hi ah s σ H _ I h) λv s1 h1=>cQ h1 λitv s2 h2=>?_
 obtain⟨it,fp,tn,J,H2,e,I2,T2,st2,f2,hD⟩:=h2;subst e;have hfo:∀b∈fp,b<s2.heap.objs.size:=λb hb=>by
  obtain⟨o,e,_⟩:=T2.lW _ _ st2 b hb;exact zam e
 -- Dn new list
 refine zaS ?_
 have hDn:H2 s2.heap.objs.size=none:=I2.b_.fresh (zah _)
 obtain⟨W,⟨m0,w0⟩,KJ⟩:=hD s2.heap.objs.size hDn
 have I3:aL X ah σ (bF H2 s2.heap.objs.size (.bM [])) { s2 with heap:=s2.heap.push { cls:=.type "list",dict:=none,data:=.seq ([]:List Value).toArray} }:=
  I2.jF (t':=s2.toks) (λb u e=>zac _ e) (zah _) ⟨zcG _,[],0,.nil,zap _ rfl⟩
 generalize hs3:({ s2 with heap:=s2.heap.push { cls:=.type "list",dict:=none,data:=.seq ([]:List Value).toArray} }:Shared)=s3 at I3
 have alO:s3.heap.objs.size=s2.heap.objs.size+1:=by rw[<-hs3];exact zda _ _
 have neD:∀b∈fp,b≠s2.heap.objs.size:=λb hb=>zar (hfo b hb)
 have f3:∀b∈fp,pV X ah (bF H2 s2.heap.objs.size (.bM [])) b:=λb hb=>⟨by rw[au (neD b hb)];exact (f2 b hb).1,(f2 b hb).2⟩
 have alP:∀b∈fp,b<s3.heap.objs.size:=λb hb=>by rw[alO];exact Nat.lt_succ_of_lt (hfo b hb)
 have st3:tn 0 s3.heap:=T2.keep _ _ _ st2 λb hb o e=>by rw[<-hs3];exact zac _ e
 generalize hDD:s2.heap.objs.size=D at *
 -- Dn frame
 refine wpAny_newFunctionEnv S.Ln (by intro y hy;simp at hy) (λh4 hn4 alQ=>?_) S.kind
 have Ro:∀b o,s3.heap.get? b=some o->h4.get? b=some o:=λb o e=>alQ.extBut b o (zar (zam e)) (zac _ e)
 generalize Rp:s3.heap.objs.size=C at *
 let R:Result->Shared->Prop:=compPost (model X.prog X.w) X.A X.xe use QQ (.ref D) C
 let xe:Value->Shared->Prop:=notedBy (model X.prog X.w) X.A (compEnvC sc (oJ X.env sc.names []) C X.env) λe s'=>R (.error e) s'
 have I4:aL (qP X (F++T) sc C fp s3 (bF H2 D (.bM [])) xe) [] (kC fr T σ) (bF H2 D (.bM [])) {s3 with heap:=h4,toks:=s3.toks+([]:List (Str×Value)).length}:=by
  subst Rp;exact Lp S I3 f3 alP hn4 Ro
 have st4:tn 0 h4:=T2.keep _ _ _ st3 λb hb o e=>Ro b o e
 have Dv:∀{H':Hp},(∀b∈fp,H' b=none)->∀b∈fp,pV (qP X (F++T) sc C fp s3 (bF H2 D (.bM [])) xe) [] H' b:=λ{H'} hn b hb=>by
  refine⟨hn b hb,?_,?_,.inl hb,λx c e=>?_,λp hp=>absurd (show p∈([]:List (Addr×Obj)) from hp) (by simp)⟩
  ·exact (I4.ok.exf b hb).1
  ·exact I4.ok.Dp b hb
  ·exact (I4.ok.exf b hb).2 x c e
 have Qu:∀s5:Shared,s5 = {s3 with heap:=h4,toks:=s3.toks+([]:List (Str×Value)).length} ->
   codeAny (model X.prog X.w) X.A (.compLoop (.ListComp v8 [⟨target,d9,rB,0⟩] sc pos) 0 (.ref it) (.ref D) (compEnvC sc (oJ X.env sc.names []) C X.env)) R s5:=by
  rintro s5 rfl
  refine zl (λn s'=>∃i d7 xs H',aL (qP X (F++T) sc C fp s3 (bF H2 D (.bM [])) xe) [] d7 H' s'/\tn i s'.heap/\(∀b∈fp,H' b=none)/\W i n d7 xs H') ?_ m0 ⟨0,_,[],_,I4,st4,λb hb=>(f3 b hb).1,w0⟩
  rintro n s6 ⟨i,KL,xs,H6,I6,st6,fr6,w6⟩
  obtain⟨hD6,tt⟩:=KJ i n KL xs H6 w6;rcases tt with⟨stop,qn⟩|⟨go,NN,hNN,AG⟩
  ·refine cQ (T2.done (qP X (F++T) sc C fp s3 (bF H2 D (.bM [])) xe) rfl rfl rfl hc i [] s6 KL H6 xe I6 (Dv fr6) st6 stop) λr s7 cy=>?_
   obtain⟨hr,I7⟩:=cy;subst hr;exact eO D C fp s3 s7 _ H6 xe KL I3 f3 Rp I7 qn
  ·refine cQ (T2.item (qP X (F++T) sc C fp s3 (bF H2 D (.bM [])) xe) rfl rfl rfl hc i [] s6 KL H6 xe I6 (Dv fr6) st6 go) λr s7 dR=>?_
   obtain⟨u,hr,h7⟩:=dR;subst hr;refine cQ h7 λ_ s8 fC=>?_
   obtain⟨x,H8,I8,r8,y8,st8,fr8⟩:=fC;have I8':=I8.KI (Dv fr8) (T2.lW _ _ st8)
   have agy:∀{s9:Shared} {Rq:St} {H9:Hp},aL (qP X (F++T) sc C fp s3 (bF H2 D (.bM [])) xe) ([]++sO fp s8.heap) Rq H9 s9->aL (qP X (F++T) sc C fp s3 (bF H2 D (.bM [])) xe) [] Rq H9 s9/\tn (i+1) s9.heap/\∀b∈fp,H9 b=none:=λ{s9 Rq H9} I9=>by
    refine⟨I9.ow,T2.keep _ _ _ st8 λb hb o e=>(I9.AF (b,o) (zaI _ (zaI _ (kg hb e)))).1,λb hb=>?_⟩
    obtain⟨o,e,d⟩:=T2.lW _ _ st8 b hb;exact (I9.AF (b,o) (zaI _ (zaI _ (kg hb e)))).2.1
   refine cQ (hg C fp s3 _ xe _ s8 KL H8 x u _ I8' r8 (AG x H8 y8)) λ_ s9 iU=>?_
   obtain⟨Rq,H9,I9,q9⟩:=iU;refine cQ (Rn C fp s3 _ xe _ s9 Rq H9 _ I9 q9) λok s10 iV=>?_
   obtain⟨H10,I10,q10⟩:=iV;cases ok with
   |false =>
    rw[if_neg zal] at q10 ⊢
    obtain⟨m',hm,w'⟩:=hNN _ _ _ q10;obtain⟨b1,b2,b3⟩:=agy I10;exact⟨m',hm,i+1,Rq,xs,H10,b1,b2,b3,w'⟩
   |true =>
    rw[if_pos rfl] at q10 ⊢
    refine cQ (he C fp s3 _ xe _ s10 Rq H10 _ I10 q10) λgz s11 l6=>?_
    obtain⟨v11,H11,I11,r11,alU,hz,q11⟩:=l6;obtain⟨m',hm,w'⟩:=hNN _ _ _ q11;refine cQ (wL _ s11 Rq H11 (.ref D) [v11] (.ref D) [gz] (λ_ H'=>H'=bF H11 D (.bM (xs++[v11]))) I11 rfl (.cons r11 .nil) ⟨D,xs,v11,rfl,rfl,alU,hz,rfl⟩) λ_ s12 jN=>?_
    obtain⟨_,H12,I12,_,e12⟩:=jN;subst e12;obtain⟨b1,b2,b3⟩:=agy I12;exact⟨m',hm,i+1,Rq,_,_,b1,b2,b3,w'⟩
 have st5:codeAny (model X.prog X.w) X.A (.compStart (.ListComp v8 [⟨target,d9,rB,0⟩] sc pos) 0 (.ref it) (.ref D) (compEnvC sc (oJ X.env sc.names []) C X.env)) R {s3 with heap:=h4,toks:=s3.toks+([]:List (Str×Value)).length}:=
  codeAny_compStart_list (Qu _ rfl) (T2.self _ 0 _ _ _ st4 (Qu _ rfl))
 subst hs3;exact st5
theorem Rr (S:dD X F T fr sc)(hc:X.fX=true)(hi:PI X target d9 wi)
  (hg:∀C fp s H xe,PG (qP X (F++T) sc C fp s H xe) target g) (Rn:∀C fp s H xe,DQ (qP X (F++T) sc C fp s H xe) rB ti) (he:∀C fp s H xe,PE (qP X (F++T) sc C fp s H xe) v8 te)
  (hs:autoParam (∀x,foldedSetIterable d9 X.env x=pure x) zp_3):PE X (.ListComp v8 [⟨target,d9,rB,0⟩] sc pos) (F5 wi fr T g ti te):=by
 intro ah s σ H Q I h;rw[eval_ListComp];refine A1 S hc hi hg Rn he hs I h λD C fp s3 s7 H3 H6 xe KL I3 f3 Rp I7 qn=>?_
 obtain⟨m7,hn7,_⟩:=I7.Ay;refine⟨m7,hn7,λh8 Vj=>⟨.ref D,H6,?_,rfl,qn⟩⟩
 have hCn:H6 C=none:=I7.free
 have un8:Un (rP X.c_) fp (H3) H6 s3.heap h8:=by
  have u7:Un (rP X.c_) fp (H3) H6 s3.heap s7.heap:=I7.base
  have nC:∀b o,s3.heap.get? b=some o->b≠C:=λb o e=>by rw[<-Rp];exact zar (zam e)
  refine⟨λb o e n hb hx=>(Vj.2 b (nC b o e)).trans (u7.keep b o e n hb hx),λb o e n hb hx=>?_,u7.free,λb o e hx=>?_,u7.sE,u7.q_,u7.sF⟩
  ·obtain⟨sl,q⟩:=u7.slot b o e n hb hx
   exact⟨sl,(Vj.2 b (nC b o e)).trans q⟩
  ·obtain⟨o',q⟩:=u7.there b o e hx
   exact⟨o',(Vj.2 b (nC b o e)).trans q⟩
 have alW:mS X.prog X.w H6 h8:=λb ob e=>by
  refine (I7.b_ b ob e).pU (λc w' hc q=>(Vj.2 c ?_).trans q) (λ_ q=>q) λ_ _ q=>q
  rintro rfl
  rcases hc with rfl|hc
  ·rw[hCn] at e;cases e
  ·rw[hCn] at hc;cases hc
 refine I3.AH (s':={s7 with heap:=h8}) (H':=H6) (ch:=fp) I7.os un8 alW I7.g5 λb hb=>?_
 obtain⟨_,q1,_,q2,q3,q4⟩:=f3 b hb;exact⟨q2,q1,q3,q4⟩
noncomputable def alX:V->Option Int->Option Int->Hp->VK->Prop:=λx lo hi H Q=>∃z,x = .str z/\z.length<=sizeLine/\Q (.str (Txt.slice z lo hi)) H
theorem ZT:SlR X alX:=by
 intro ah s σ H x v vl vu lo hi sl Q I rx hs pl pu h;obtain⟨z,rfl,hz,q⟩:=h;obtain⟨t,rfl⟩:=(show ∃t,v=Value.str z t from rx)
 refine⟨"str",_,F.slot_str_getitem.lookup,typeIs_str _ _ _,?_⟩
 have key:∀(l u:Option (Int×Tok)),s.heap.IsSlice sl l u none->l.map (·.1)=lo->u.map (·.1)=hi->wpAny (model X.prog X.w) X.A (getItem (.str z t) (.ref sl)) (EP X ah σ Q) X.xe s:=by
  intro l u hsl e1 e2;subst e1 e2;exact wpAny_getItem_str_slice (st:=none) hsl rfl (post_val_or_str ⟨zai (Txt.slice_le z _ _) hz,λt' k=>⟨.str (Txt.slice z (l.map (·.1)) (u.map (·.1))),H,I.nH k,⟨t',rfl⟩,q⟩⟩)
 cases pl with
 |none=>cases pu with
  |none=>exact key none none hs rfl rfl
  |int j t'=>exact key none (some (j,t')) hs rfl rfl
 |int i ti=>cases pu with
  |none=>exact key (some (i,ti)) none hs rfl rfl
  |int j t'=>exact key (some (i,ti)) (some (j,t')) hs rfl rfl
noncomputable def sZ (z:Str)(n:Nat):Str:=⟨(List.replicate n z.cps).foldl (·++·) #[]⟩
noncomputable def agz:R2:=λx y H Q=>∃z n,x = .str z/\y = .int n/\0<=n/\n<1000000/\z.length * n.toNat<=1000000/\Q (.str (sZ z n.toNat)) H
theorem Lq (z:Str):sZ z 1=z:=by
 obtain⟨c⟩:=z;simp[sZ]
theorem v9 (h:z.length=0)(n:Nat):sZ z n=z:=by
 obtain⟨c⟩:=z;have e:c = #[]:=by simpa[Str.length] using h
 subst e;unfold sZ;congr 1
 induction n with
 |zero=>rfl
 |succ n ih=>rw[zbq,zbp];simpa using ih
theorem DR:ki X (binaryOp .Mult) agz:=by
 intro ah s σ H x y v u Q I rx ry h;obtain⟨z,n,rfl,rfl,h0,h1,h2,q⟩:=h;obtain⟨t,rfl⟩:=(show ∃t,v=Value.str z t from rx)
 obtain⟨t',rfl⟩:=(show ∃t,u=Value.int n t from ry)
 have hz:z.length * n.toNat<=sizeLine:=zai h2 (by decide)
 refine P.mul_str (by
  have e1:¬ n < -(2 ^ 63:Int):=by omega
  have e2:¬ n ≥ 2 ^ 63:=by omega
  rw[decide_eq_false e1,decide_eq_false e2];rfl) (λhn _ hc=>?_) (λ_ _=>?_) ?_
 ·have alY:0<n:=by omega
  have e3:(z.length:Int) * n<=1000000:=by
   have:((z.length * n.toNat:Nat):Int)<=((1000000:Nat):Int):=Int.ofNat_le.mpr h2
   rw[Int.natCast_mul,Int.toNat_of_nonneg h0] at this;exact this
  have e4:(z.length:Int)<=(2 ^ 63 - 1) / n:=by
   rw[Int.le_ediv_iff_mul_le alY];omega
  omega
 ·unfold Builtin.Str.tooLong
  exact decide_eq_false (by omega)
 ·by_cases hn:n<1
  ·rw[if_pos hn]
   have e:n=0:=by omega
   subst e;exact⟨by decide,⟨.str _,H,I.nH _,⟨_,rfl⟩,q⟩⟩
  ·rw[if_neg hn]
   by_cases hc:(n == 1 || z.length == 0)=true
   ·rw[if_pos hc]
    have e:sZ z n.toNat=z:=by
     rcases zdJ _ _ ▸ hc with e|e
     ·have e:n=1:=by simpa using e
      subst e;exact Lq z
     ·exact v9 (by simpa using e) _
    rw[e] at q;exact⟨.str z,H,I,⟨t,rfl⟩,q⟩
   ·rw[if_neg hc]
    refine⟨?_,⟨.str _,H,I.nH _,⟨_,rfl⟩,q⟩⟩
    have:∀(k:Nat) (a:Array Nat),((List.replicate k z.cps).foldl (·++·) a).size=a.size+k * z.cps.size:=by
     intro k;induction k with
     |zero=>intro a;simp
     |succ k ih=>intro a;rw[zbq,zbp,ih,Array.size_append,Nat.succ_mul];omega
    show ((List.replicate n.toNat z.cps).foldl (·++·) #[]).size<=sizeLine
    rw[this];have e5:z.cps.size=z.length:=rfl
    rw[e5];simp only[zao,zbM,zbT];rw[Nat.mul_comm];exact hz
noncomputable def alZ (K:PySem.W.Frag):List V->Hp->VK->Prop:=λxs H Q=>∃x c u t b,xs=[x,c]/\(c = .ty u\/False)/\oz K H x t/\PySem.W.kitOne K t (.type u)=some b/\Q (.bl b) H
theorem Lr:jJ X (.builtin "isinstance") (alZ X.K):=by
 intro ah s σ H xs us Q I r h;obtain⟨x,c,u,t,b,rfl,hc,ty,e,q⟩:=h;rcases hc with rfl|hc
 ·obtain⟨v1,v2,rfl,r1,r2⟩:=r.two
  cases (show v2=Value.type u from r2)
  exact Ij I r1 ty e λtk=>⟨.bl b,H,I.nH tk,rfl,q⟩
 ·exact hc.elim
noncomputable def rT:List Value:=[.type "ValueError",.type "Exception",.type "BaseException",.type "object"]
theorem F6:rT.contains (.type "ValueError")=true:=by decide +kernel
noncomputable def kD (C:Addr)(od:Option Addr)(t:Addr):Obj:={cls:=.ref C,dict:=od,data:=.fields #[.ref t,.none,.none,.none,.bool false,.none]}
noncomputable def EO (a C:Addr)(od:Option Addr):HO:=.ext λh=>∃t:Addr,h.get? a=some (kD C od t)
noncomputable def ED (d:Addr)(fs:List (Str×V)):HO:=.ext λh=>∃mA,h.Ns1 d mA/\(∀f,iG (fs.lookup f) (mA f))/\PySem.Within mA (fs.map (·.1))
theorem Ls (e:h.get? a=some (kD C od t)):cD P w H h a (EO a C od):=
 ⟨⟨t,e⟩,⟨_,e⟩,λh1 h2 cy k=>by obtain⟨t,q⟩:=cy;exact⟨t,k _ q⟩⟩
theorem Lu (e:h.Ns1 d mA)(r:∀f,iG (fs.lookup f) (mA f))(wi:PySem.Within mA (fs.map (·.1))):cD P w H h d (ED d fs):=
 ⟨⟨mA,e,r,wi⟩,(let ⟨o,_,_,e',_⟩:=e;⟨o,e'⟩),λh1 h2 dR k=>by obtain⟨mA,q,r,wi⟩:=dR;exact⟨mA,q.at λo z=>k o z,r,wi⟩⟩
section
variable {prog:Program}{w:World}{A:Around}{E:Value->Shared->Prop}{h:Heap}{g:Array GenState}{d:Drawn}{t:Nat}{os:OsState}{K:PySem.W.Frag}
variable {nm q:Str}{C N:Addr}{bs bm:List Value}{rC:Bool}{sn:List Str}{sub:List Value}{ab:Bool}{s_:Option Bool}{dd:Option Addr}{k0 k1 k2 k3 k5:Option Value}
theorem rD (X:K.In h)(T:OwnTail h rT bm){dc:List Value} 
  (hC:h.get? C=some (excClassObj nm q C N bs bm rC sn sub ab s_ dd k0 k1 k2 k3 k5 "ValueError.__new__"))
  (hi:PySem.W.findIn K (.ref C) "__init__"=some (some (.ref fI))) (hf:PySem.W.typeIn K (.ref fI)=some (.type "function"))
  (hq:wpAny (model prog w) A (call (.ref fI) (.ref (h.objs.size+1)::dc)) (λr s'=>r = .none/\Q (.done (.ret (.ref (h.objs.size+1)))) s') E
   ⟨(h.push { cls:=.type "tuple",data:=.seq dc.toArray}).push (kD C none h.objs.size),g,d,t,os⟩) (hrest:dc.length<=sizeLine):
  wpAny (model prog w) A (Builtin.«type.__call__» ⟨.ref C::dc,[]⟩) Q E ⟨h,g,d,t,os⟩:=by
 have F:ExcBaseFacts "ValueError" "ValueError.__new__" "ValueError.__init__" rT:=F.excBase_ValueError
 repeat (first|with_reducible refine zbB hC ?_|with_reducible refine wpAny_madeBy_exc hC ?_|wp_step)
 refine codeAny_call_builtin_code (Code.quiet_builtin _ F.quiet) (wpAny_check_new_subU F F6 T hC ?_)
 refine codeAny_exc_new_subU F F6 F T hC ?_ hrest
 show wpAny _ _ _ _ _ _
 have up:∀b o,h.get? b=some o->((h.push { cls:=.type "tuple",data:=.seq dc.toArray}).push {cls:=.ref C,data:=.fields #[.ref h.objs.size,.none,.none,.none,.bool false,.none]}).get? b=some o:=
  λb o e=>zac _ (zac _ e)
 have agA:=up _ _ hC;have agB:K.In _:=X.keeps up
 have al0:((h.push { cls:=.type "tuple",data:=.seq dc.toArray}).push
   {cls:=.ref C,data:=.fields #[.ref h.objs.size,.none,.none,.none,.bool false,.none]}).get? (h.objs.size+1)=some
   {cls:=.ref C,data:=.fields #[.ref h.objs.size,.none,.none,.none,.bool false,.none]}:=by heap_get
 have hcC:(Value.ref C::bm).contains (.ref C)=true:=by simp
 unfold isInstance;repeat (first|with_reducible refine zbB al0 ?_ | (with_reducible refine zcq agA ?_;rw[hcC])|wp_step)
 show wpAny _ _ (typeLookup (.ref C) _) _ _ _
 refine (zbP agB hi).here ?_
 refine zbu (zaa ?_)
 unfold bindSpecial;refine zaa ((PySem.W.looks_typeIn agB hf).here ?_)
 rw[if_pos (by decide)]
 refine zaf (zaa (zaH hq (λr s' hr=>?_) λ_ _ x=>x))
 obtain⟨rfl,hQ⟩:=hr;wp_walk
 exact hQ
theorem DS (X:K.In h)(T:OwnTail h rT bm){dc:List Value} 
  (hC:h.get? C=some (excClassObj nm q C N bs bm rC sn sub ab s_ dd k0 k1 k2 k3 k5 "ValueError.__new__"))
  (hi:PySem.W.findIn K (.ref C) "__init__"=some (some (.ref fI))) (hf:PySem.W.typeIn K (.ref fI)=some (.type "function"))
  (hq:wpAny (model prog w) (A.under (.builtin "type.__call__" ⟨.ref C::dc,[]⟩)) (call (.ref fI) (.ref (h.objs.size+1)::dc)) (λr s'=>r = .none/\Q (.ref (h.objs.size+1)) s') E
   ⟨(h.push { cls:=.type "tuple",data:=.seq dc.toArray}).push (kD C none h.objs.size),g,d,t,os⟩) (hrest:dc.length<=sizeLine):
  wpAny (model prog w) A (call (.ref C) dc) Q E ⟨h,g,d,t,os⟩:=by
 have f1:=tc_lookup;have f2:=tc_bind (.ref C)
 have hT:(⟨h,g,d,t,os⟩:Shared).TypeIs (.ref C) "type" := ⟨_,hC,rfl⟩
 refine zcD (codeAny_of_tree ?_)
 show wpAny _ _ (callAny (.ref C) _) _ _ _
 repeat (any_goals (first|assumption|with_reducible refine zbB hC ?_|wp_step))
 refine⟨rfl,?_⟩
 exact codeAny_call_builtin_at (Code.quiet_builtin _ (by decide +kernel)) entry_typeCall (wpAny_check_type_call_sub hC (rD (hrest:=hrest) X T hC hi hf hq))
end
structure oK (K:PySem.W.Frag) (C f:Addr) (bm:List Value):Prop where
 lW:∃nm q N bs sn sub ab s_ dd k0 k1 k2 k3 k5,K.lookup C=some (excClassObj nm q C N bs bm true sn sub ab s_ dd k0 k1 k2 k3 k5 "ValueError.__new__")
 tail:PySem.W.tailIn K rT bm=true
 init:PySem.W.findIn K (.ref C) "__init__"=some (some (.ref f))
 fn:PySem.W.typeIn K (.ref f)=some (.type "function")
 kp:PySem.W.keepIn K (.ref C)=true
 sa:PySem.W.findIn K (.ref C) "__setattr__"=some (some (.builtin "object.__setattr__"))
 ga:PySem.W.findIn K (.ref C) "__getattribute__"=some (some (.builtin "BaseException.__getattribute__"))
 gg:PySem.W.findIn K (.ref C) "__getattr__"=some none
 kc:PySem.W.findIn K (.ref C) "__class__"=some (some (.builtin "object.__class__"))
 nb:∃B,bm = .ref B::rT
theorem A2 (h:H a=some o):bF H a o=H:=by
 funext b
 unfold bF;split
 ·rename_i e;rw[e,h]
 ·rfl
section
variable {X:Cx}{CX:AM}{k:Nat}{f C:Addr}{bm:List Value}{fd:FuncData}{ps:List Str}{sp:Sp}{mU:List V}{ds:List Value}{E:XK}{x m:Str}{p pos eY:Pos}{e o:Expr}{es:List Expr}{ta:TE}{t:TA}
noncomputable def al1 (C:Addr)(sp:Sp)(mU:List V)(E:XK)(t:TA):TE:=λσ H Q=>t σ H λvs H1=>vs.length<=1000/\∀x,H1 x=none ->
 sp (.ref x::(vs++mU)) (bF H1 x (EO x C none)) (λv H2=>v = .br/\Q (.ref x) H2) E
theorem Rt (M:oK X.K C f bm)(F:aN X.prog X.w X.K X.mg X.base CX k f fd ps sp)(hr:gH (k+1) X.A)(hb:d8 X.K fd ps ds)(hd:bL mU ds)
  (hx:fB CX X E) (I:aL X ah σ H s) (r:bL vs us) (hz:vs.length<=1000)
  (h:∀x,H x=none->sp (.ref x::(vs++mU)) (bF H x (EO x C none)) (λv H2=>v = .br/\Q (.ref x) H2) E):
  wpAny (model X.prog X.w) X.A (call (.ref C) us) (EP X ah σ Q) X.xe s:=by
 obtain⟨nm,q,N,bs,sn,sub,ab,s_,dd,k0,k1,k2,k3,k5,lk⟩:=M.lW;have KX:=I.jH;have hq:=h (s.heap.objs.size+1) (I.b_.fresh (zbb _))
 have hsz:us.length<=sizeLine:=by
  rw[<-r.length];exact zai hz (by decide)
 have e2:((s.heap.push { cls:=.type "tuple",data:=.seq us.toArray}).push (kD C none s.heap.objs.size)).get? (s.heap.objs.size+1)=some (kD C none s.heap.objs.size):=by
  have:=zap (s.heap.push { cls:=.type "tuple",data:=.seq us.toArray}) (o:=kD C none s.heap.objs.size) rfl
  rwa[zda] at this
 have up:∀b o,s.heap.get? b=some o->((s.heap.push { cls:=.type "tuple",data:=.seq us.toArray}).push (kD C none s.heap.objs.size)).get? b=some o:=λb o e=>zac _ (zac _ e)
 have I2:aL X ah σ (bF H (s.heap.objs.size+1) (EO (s.heap.objs.size+1) C none)) { s with heap:=(s.heap.push { cls:=.type "tuple",data:=.seq us.toArray}).push (kD C none s.heap.objs.size)}:=
  I.jF (t':=s.toks) up (zbb _) (Ls e2)
 have r2:bL (V.ref (s.heap.objs.size+1)::(vs++mU)) (Value.ref (s.heap.objs.size+1)::(us++ds)):=.cons rfl (r.lU hd)
 have hl:(Value.ref (s.heap.objs.size+1)::us++ds).length=ps.length:=by
  have e:=r2.length;rw[F.len _ _ _ _ hq] at e;exact e.symm
 have eO:wpAny (model X.prog X.w) (X.A.under (.builtin "type.__call__" ⟨.ref C::us,[]⟩)) (call (.ref f) (.ref (s.heap.objs.size+1)::us)) (λr s'=>r = .none/\EP X ah σ Q (.ref (s.heap.objs.size+1)) s') X.xe
   { s with heap:=(s.heap.push { cls:=.type "tuple",data:=.seq us.toArray}).push (kD C none s.heap.objs.size)}:=by
  refine zcD (zcw (F.kj _ X.c_ _ _ ⟨Value.ref (s.heap.objs.size+1)::us,[]⟩ (Value.ref (s.heap.objs.size+1)::(us++ds)) _ _ E (hr.KY C us [])
   (I2.yV.KY C us []) (hb _ (Value.ref (s.heap.objs.size+1)::us) I2.jH hl) r2 hq) λr s' K2=>?_)
  cases r with
  |error e=>exact hx ah σ _ _ e s' I2 K2
  |ok fl =>
   cases fl with
   |ret u =>
    obtain⟨v,H',I3,rv,ev,q3⟩:=I2.after K2;subst ev;exact⟨rv,⟨V.ref (s.heap.objs.size+1),H',I3,rfl,q3⟩⟩
   |next=>exact False.elim K2
   |brk=>exact False.elim K2
   |cont=>exact False.elim K2
 exact DS (g:=s.gens) (d:=s.drawn) (t:=s.toks) (os:=s.os) KX (zeu KX M.tail) (KX _ _ lk) M.init M.fn eO hsz
theorem ZU (M:oK X.K C f bm)(F:aN X.prog X.w X.K X.mg X.base CX k f fd ps sp)(hr:gH (k+1) X.A)(hg:Gl X x)(hm:X.mg x=some (.ref C))(hb:d8 X.K fd ps ds)(hd:bL mU ds)(hx:fB CX X E)
  (ha:PA X (e::es) t) (sS:autoParam ((x == ("__debug__" : Str))=false) zp_1) (he:autoParam (starEach (e::es) X.env=(false,eval e X.env)::starEach es X.env) zp_0) (hpl:autoParam ((backTo pos (starEach es X.env)).any (·.1)=false) zp_0):
  PE X (.Call (.Name x p) (e::es) [] pos) (al1 C sp mU E t):=by
 intro ah s σ H Q I h;refine zcc (mT I hg hm ?_ sS)
 refine zcx (h₀:= X.base) I.ok.sH.YW M.kp (cQ (ha pos ah s σ H _ I h) λus s1 ⟨vs,H1,I1,r,hz,q⟩=>⟨I1.jH,?_⟩) he hpl
 exact Rt M F hr hb hd hx I1 r hz q
structure Vk (K:PySem.W.Frag) (B:Addr):Prop where
 sp:PySem.W.specialIn K (.ref B) "__getattribute__"=some (some (.builtin "type.__getattribute__"))
 rd:PySem.W.readsIn K B (.type "type")=true
 fc:PySem.W.findCls K (.ref B) (.type "type") "__init__"=some (.val (.builtin "ValueError.__init__"))
noncomputable def ZV (K:PySem.W.Frag)(t:TA):TE:=λσ H Q=>t σ H λvs H1=>∃a C f bm od y,vs=[.ref a,y]/\H1 a=some (EO a C od)/\oK K C f bm/\Q .br H1
theorem Lv (M:oK X.K C f bm)(I:aL X ah σ H s)(hH:H a=some (EO a C od))(q:Q .br H):
  wpAny (model X.prog X.w) X.A (call (.builtin "ValueError.__init__") [.ref a,u]) (EP X ah σ Q) X.xe s:=by
 obtain⟨nm,q',N,bs,sn,sub,ab,s_,dd,k0,k1,k2,k3,k5,lk⟩:=M.lW;have KX:=I.jH;have F:ExcBaseFacts "ValueError" "ValueError.__new__" "ValueError.__init__" rT:=F.excBase_ValueError
 obtain⟨⟨t0,ha⟩,_,_⟩:=(show cD X.prog X.w H s.heap a (EO a C od) from I.b_ a _ hH)
 have hC:=KX _ _ lk;have T:=zeu KX M.tail;obtain⟨h,g,d,tk,os⟩:=s;refine zcD (zcQ F.init.plain F.initEntry (wpAny_check_init_subU F T hC ha rfl ?_))
 have Ru:h.get? a=some {cls:=.ref C,dict:=od,data:=.fields #[.ref t0,.none,.none,.none,.bool false,.none]}:=ha
 wp_walk
 have up:∀b o,h.get? b=some o->(h.push { cls:=.type "tuple",data:=.seq #[u]}).get? b=some o:=λb o e=>zac _ e
 have I1:aL X ah σ H ⟨h.push { cls:=.type "tuple",data:=.seq #[u]},g,d,tk,os⟩:=I.gZ (t':=tk) up
 have e1:((h.push { cls:=.type "tuple",data:=.seq #[u]}).update a (Obj.mapFields λx=>x.setIfInBounds 0 (Value.ref h.objs.size))).get? a=some (kD C od h.objs.size):=by
  rw[zaQ _ (up _ _ Ru) rfl];rfl
 have I2:=I1.ji (x:=a) (e:=a) (o:=EO a C od) (t':=tk) (h':=(h.push { cls:=.type "tuple",data:=.seq #[u]}).update a (Obj.mapFields λx=>x.setIfInBounds 0 (Value.ref h.objs.size)))
  (by rw[hH];exact True.intro) (.inl rfl) (λb z hb e=>(zaA _ _ (zbc hb)).trans e) ⟨_,e1⟩ (Ls e1)
 rw[A2 hH] at I2;exact⟨.br,H,I2,rfl,q⟩
theorem Lw (EB:Vk X.K B)(hg:Gl X x)(hm:X.mg x=some (.ref B))(ha:PA X [e,e2] t)(sS:autoParam ((x == ("__debug__" : Str))=false) zp_1)
  (pQ:autoParam (starEach [e,e2] X.env=(false,eval e X.env)::starEach [e2] X.env) zp_0) (hpl:autoParam ((backTo pos (starEach [e2] X.env)).any (·.1)=false) zp_0)
  (ht:autoParam (eval (.Call (.Attribute (.Name x p) "__init__" eY) [e,e2] [] pos) X.env=(do
   let ov <-eval (.Name x p) X.env
   standAt eY.atName
   let (f,first) <-holding [ov] (getMethod ov "__init__" pl)
   callWith pos f first (backTo pos (starEach [e,e2] X.env)) (backToKw pos (keywordEach [] X.env)))) zp_0):
  PE X (.Call (.Attribute (.Name x p) "__init__" eY) [e,e2] [] pos) (ZV X.K t):=by
 intro ah s σ H Q I h;refine zcM (pl:=pl) (mT I hg hm ?_ sS) ht
 refine PySem.W.method_cls I.jH EB.sp (PySem.W.cls_value I.jH EB.rd EB.fc rfl ?_)
 have I1:=I.nH (s.toks+1)
 have hA:=ha pos ah {s with toks:=s.toks+1} σ H _ I1 h
 rw[pQ] at hA ⊢
 refine zcH (by show (false || (backTo pos (starEach [e2] X.env)).any (·.1))=false;rw[hpl]<;>rfl) (zcO ?_)
 refine cQ hA λus s2 dR=>?_
 obtain⟨vs,H2,I2,r2,a,C',f',Kg,od,y,ev,hH,M,q⟩:=dR;subst ev;obtain⟨u1,u2,rfl,ru1,_⟩:=r2.two;cases (show u1=Value.ref a from ru1)
 exact Lv M I2 hH q
end
theorem ZW (e:h.get? a=some (kD C none t)):PySem.W.InstAt h a (kD C none t) C none:=⟨e,rfl,rfl,True.intro⟩
theorem ZX (e:h.get? a=some (kD C (some d) t))(hd:h.get? d=some o):PySem.W.InstAt h a (kD C (some d) t) C (some o):=⟨e,rfl,rfl,hd⟩
theorem DT (self:Value):refuseLoop self "__setattr__" rT=pure ():=by
 with_unfolding_all rfl
theorem oK.cls {K:PySem.W.Frag}(M:oK K C f bm):∃cd,PySem.W.clsIn K C=some cd/\cd.mro = .ref C::bm/\cd.hasDict=true:=by
 obtain⟨nm,q',N,bs,sn,sub,ab,s_,dd,k0,k1,k2,k3,k5,lk⟩:=M.lW;refine⟨{name:=nm,bases:=bs,mro:=.ref C::bm,ns:=N,qualname:=q',hasDict:=true,slotNames:=sn,subclasses:=sub,abstract:=ab,collection:=s_,hasDel:=false},?_,rfl,rfl⟩
 unfold PySem.W.clsIn;rw[lk]
section
variable {prog:Program}{w:World}{A:Around}{E:Value->Shared->Prop}{s:Shared}{K:PySem.W.Frag}{x C f:Addr}{bm:List Value}{ox:Obj}{od:Option Obj}{name:Str}
theorem oK.has {T:String}(M:oK K C f bm)(hT:rT.contains (.type T)=true):PySem.W.mroIn K C (.type T)=some true:=by
 obtain⟨cd,hc,hm,_⟩:=M.cls;obtain⟨B,rfl⟩:=M.nb;unfold PySem.W.mroIn;rw[hc,zbv,hm,if_neg (by simp)]
 rw[zbx,zbx,hT,zcy,zcy]
theorem Rv {al2 KS:Bool}{tk:Tok}{Q:Value->Shared->Prop}(X:K.In s.heap)(I:PySem.W.InstAt s.heap x ox C od)(M:oK K C f bm)
  (h:wpAny (model prog w) A.in1 (Builtin.«object.__getattribute__» ⟨[.ref x,.str name tk],[]⟩)
   (λeO s'=>match eO with|.done (.ret v)=>wpAny (model prog w) A (handedOut v) Q E s' | _=>False) (λ_ _=>False) s):
  wpAny (model prog w) A (getAttrBy (.ref x) (.str name tk) al2 KS) Q E s:=by
 have L0:=I.type (M:=model prog w)
 unfold getAttrBy;refine zbu (zaa (L0.here (zaa ((zbP X M.ga).here ?_))))
 dsimp only;rw[show (onTheHeap (Value.ref C) && Value.builtin "BaseException.__getattribute__" == Value.builtin "object.__getattribute__")=false from by rw[show (Value.builtin "BaseException.__getattribute__" == Value.builtin "object.__getattribute__")=false from by decide +kernel,zdV],if_neg (by decide)]
 unfold getAttrByItsOwn;refine zaa ?_
 unfold hookBefore;rw[if_pos (show onTheHeap (Value.ref C)=true from rfl)];refine (zbP X M.gg).here (zaa (wpAny_attempt (zbu ?_)))
 unfold callGetattribute;rw[show (KS && onTheHeap (Value.builtin "BaseException.__getattribute__"))=false from zdV _,if_neg (by decide)]
 unfold boundAndCalled;rw[zdf.ga.bind];refine zaa (zaf ?_)
 show wpAny _ _ (call (.builtin "BaseException.__getattribute__") [.ref x,.str name tk]) _ _ _
 refine zcD (zcQ zdf.ga.plain PySem.F.entry_bexc_ga ?_)
 refine @zev (model prog w) _ _ s "BaseException.__getattribute__" "BaseException" "__getattribute__" (.ref x) [.str name tk] [] _ (by decide +kernel) (by decide +kernel)
  (L0.andThen (zei X (M.has (by decide +kernel)))) (PySem.F.args_bexc_ga _ _) ?_
 refine zaH h (λeO s' z=>?_) λ_ _ z=>z.elim
 rcases eO with (_|_|_|_)|_<;>first|exact z|exact z.elim
theorem DU {KS:Bool}{v:Value}{Q:Value->Shared->Prop}(X:K.In s.heap)(I:PySem.W.InstAt s.heap x ox C od)(M:oK K C f bm)(hf:PySem.W.findObj K C od name=some (.value v))(hh:PySem.W.handedIn v=true)
  (h:Q v {s with toks:=s.toks+1}):wpAny (model prog w) A (getAttr (.ref x) name KS) Q E s:=by
 unfold getAttr;refine zaa (wpAny_mkText ?_)
 refine Rv (s:={s with toks:=s.toks+1}) X I M ?_
 have L0:=I.type (M:=model prog w)
 have L1:=PySem.W.looks_find (M:=model prog w) X I hf
 obtain⟨hh',g,d,t,os⟩:=s;refine zaa (zaf (zaa (zaf (zaa (L0.at (zaa (L1.at ?_)))))))
 refine zaf ?_
 show wpAny _ _ (handedOut v) _ _ _
 rw[PySem.W.handedOut_of hh];exact zaf h
theorem wO {v:Value}{b:Bool->Prop}{Q:Unit->Shared->Prop}(X:K.In s.heap)(I:PySem.W.InstAt s.heap x ox C od)(M:oK K C f bm)(hn:PySem.W.findIn K (.ref C) name=some none)
  (h:∀on tk,wpAny (model prog w) A.in1 (Builtin.ObjectAttr.storeInOwnDict (.ref x) (.ref C) (.str name tk) name v on) (λeO s'=>match eO with|.done (.ret _)=>Q () s' | _=>False) E {s with toks:=s.toks+1}):
  wpAny (model prog w) A (setAttr (.ref x) name v) Q E s:=by
 refine zeB X I M.sa ?_
 have SF:=PySem.F.store_object;obtain⟨cd,hc,hm,_⟩:=M.cls;obtain⟨B,hB⟩:=M.nb;have L0:=I.type (M:=model prog w)
 refine zcQ SF.slot.plain SF.entry (@zev (model prog w) _ _ {s with toks:=s.toks+1} "object.__setattr__" "object" "__setattr__" (.ref x) [.str name s.toks,v] [] _ SF.kind SF.split
  (L0.andThen (zei X (M.has (by decide +kernel)))) (SF.args (.ref x) (.str name s.toks) v) ?_)
 have Lm:PySem.W.Looks (model prog w) s.heap (mroOf (.ref C)) cd.mro:=(zcp X hc).andThen .now
 rw[PySem.W.osa_eq,refuse_eq];refine zaa (zaa (zbw (s:={s with toks:=s.toks+1}) L0 (zaa (zbw (s:={s with toks:=s.toks+1}) Lm ?_))))
 rw[hm,hB,refuseLoop_ref,refuseLoop_ref,DT];refine zaf (zaa (zbw (s:={s with toks:=s.toks+1}) L0 (zaa (zbw (s:={s with toks:=s.toks+1}) (zbP X hn) ?_))))
 refine zaa (zaf ?_)
 refine zaH (h _ _) (λeO s' z=>?_) λ_ _ z=>z
 rcases eO with (_|_|_|_)|_<;>first|exact z|exact z.elim
end
section
variable {X:Cx}{ah:List (Addr×Obj)}{σ:St}{H:Hp}{s:Shared}{A:Around}{E:Value->Shared->Prop}{a C f d:Addr}{bm:List Value}{g:Str}{v y:V}{u:Value}{fs:List (Str×V)}
theorem Lx {od:Option Addr}(I:aL X ah σ H s)(h:H a=some (EO a C od)):∃t,s.heap.get? a=some (kD C od t):=by
 obtain⟨⟨t,e⟩,_,_⟩:=(show cD X.prog X.w H s.heap a (EO a C od) from I.b_ a _ h)
 exact⟨t,e⟩
theorem Vl (I:aL X ah σ H s)(h:H d=some (ED d fs)):∃mA,s.heap.Ns1 d mA/\(∀f,iG (fs.lookup f) (mA f))/\PySem.Within mA (fs.map (·.1)):=by
 obtain⟨q,_,_⟩:=(show cD X.prog X.w H s.heap d (ED d fs) from I.b_ d _ h)
 exact q
end
theorem Lz (h:a≠b):bF (bF (bF H a o) b u) a w=bF (bF (bF H a o) a w) b u:=by
 funext c
 unfold bF;by_cases h1:c=a
 ·subst h1;rw[if_pos rfl,if_neg h,if_pos rfl]
 ·rw[if_neg h1,if_neg h1,if_neg h1]
theorem LA (I:aL X ah σ H s)(M:oK X.K C f bm)(ha:H a=some (EO a C none))(hn:PySem.W.findIn X.K (.ref C) g=some none)(ry:bI y u)
  (h:∀d s',H d=none->aL X ah σ (bF (bF H d (ED d [(g,y)])) a (EO a C (some d))) s'->Q () s'):wpAny (model X.prog X.w) A (setAttr (.ref a) g u) Q E s:=by
 obtain⟨t,e⟩:=Lx I ha;obtain⟨cd,hc,_,rC⟩:=M.cls;refine wO (b:=λ_=>True) I.jH (ZW e) M hn λon tk=>?_
 have ZY:H s.heap.objs.size=none:=I.b_.fresh (zah _)
 have e':s.heap.get? a=some ⟨.ref C,none,.fields #[.ref t,.none,.none,.none,.bool false,.none],#[]⟩:=e
 refine zaa (zaf (zaa (zaa (zdU e' (zaa (zbw (s:={s with toks:=s.toks+1}) (zcp I.jH hc) ?_))))))
 rw[rC];refine zaa (wpAny_alloc ?_)
 have hal:a<s.heap.objs.size:=zam e
 have nad:a≠s.heap.objs.size:=zar hal
 have g1:(s.heap.push ({ cls:=.type "dict",data:=.dict #[]}:Obj)).get? s.heap.objs.size=some { cls:=.type "dict",data:=.dict #[]}:=zap _ rfl
 have n1:(s.heap.push ({ cls:=.type "dict",data:=.dict #[]}:Obj)).Ns s.heap.objs.size (λ_=>none):=⟨_,#[],_,g1,rfl,(λe he=>absurd he (by simp)),λ_=>rfl⟩
 have n1':=Heap.Ns1.of_empty n1;have I1:aL X ah σ (bF H s.heap.objs.size (ED s.heap.objs.size [])) { s with heap:=s.heap.push ({ cls:=.type "dict",data:=.dict #[]}:Obj),toks:=s.toks+1}:=
  I.jF (λb u e=>zac _ e) (zah _) (Lu n1' (λ_=>True.intro) (λy hy=>absurd rfl hy))
 have e1:(s.heap.push ({ cls:=.type "dict",data:=.dict #[]}:Obj)).get? a=some ⟨.ref C,none,.fields #[.ref t,.none,.none,.none,.bool false,.none],#[]⟩:=zac _ e'
 refine zaa (wpAny_update e1 ?_)
 have e2:((s.heap.push ({ cls:=.type "dict",data:=.dict #[]}:Obj)).update a (λo=>{cls:=o.cls,dict:=some s.heap.objs.size,data:=o.data,slots:=o.slots})).get? a=some (kD C (some s.heap.objs.size) t):=by
  rw[zaQ _ e1 rfl];rfl
 have hH1:(bF H s.heap.objs.size (ED s.heap.objs.size [])) a=some (EO a C none):=by rw[au nad];exact ha
 have I2:=I1.ji (x:=a) (e:=a) (o:=EO a C (some s.heap.objs.size)) (t':=s.toks+1) (h':=(s.heap.push ({ cls:=.type "dict",data:=.dict #[]}:Obj)).update a (λo=>{cls:=o.cls,dict:=some s.heap.objs.size,data:=o.data,slots:=o.slots}))
  (by rw[hH1];exact True.intro) (.inl rfl) (λb z hb q=>(zaA _ _ (zbc hb)).trans q) ⟨_,e2⟩ (Ls e2)
 have n2:((s.heap.push ({ cls:=.type "dict",data:=.dict #[]}:Obj)).update a (λo=>{cls:=o.cls,dict:=some s.heap.objs.size,data:=o.data,slots:=o.slots})).Ns1 s.heap.objs.size (λ_=>none):=
  n1'.at λo z=>(zaA _ _ nad).trans z
 refine zaf ?_
 refine zaa (zaf (zaa ?_))
 refine wpAny_nsSet1 n2 λh' Ka hs2=>?_
 obtain⟨oD,esD,epD,Va,hdD,hcD⟩:=Ka.count (PySem.Within.cons g u (ns:=[]) (λy hy=>absurd rfl hy))
 refine zaa (zdy Va (by rw[hdD];exact zdz (zai hcD (show 1<=sizeLine+1 by decide))) ?_)
 refine zaf (h s.heap.objs.size _ ZY ?_)
 have hHd:(bF (bF H s.heap.objs.size (ED s.heap.objs.size [])) a (EO a C (some s.heap.objs.size))) s.heap.objs.size=some (ED s.heap.objs.size []):=by rw[au (zbc nad),ay]
 have I3:=I2.ji (x:=s.heap.objs.size) (e:=s.heap.objs.size) (o:=ED s.heap.objs.size [(g,y)]) (t':=s.toks+1+1) (h':=h')
  (by rw[hHd];exact True.intro) (.inl rfl) (λb z hb q=>(hs2.2 b hb).trans q) ⟨_,Va⟩ (Lu Ka (λf=>?_) (λf hf=>?_))
 ·rw[Lz (zbc nad),Fy] at I3
  exact I3
 ·show iG (List.lookup f [(g,y)]) (if f=g then some u else none)
  rw[zaP];by_cases q:f=g
  ·rw[if_pos q,show (f == g)=true from by simpa using q]
   exact ry
  ·rw[if_neg q,show (f == g)=false from by simpa using q]
   exact True.intro
 ·have hf:(if f=g then some u else none)≠none:=hf
  by_cases q:f=g
  ·rw[q];simp
  ·rw[if_neg q] at hf;exact absurd rfl hf
theorem LB (I:aL X ah σ H s)(M:oK X.K C f bm)(ha:H a=some (EO a C (some d)))(hd:H d=some (ED d fs))(hl:fs.length<1000)(hn:PySem.W.findIn X.K (.ref C) g=some none)(ry:bI y u)
  (h:∀s',aL X ah σ (bF H d (ED d (gr g y fs))) s'->Q () s'):wpAny (model X.prog X.w) A (setAttr (.ref a) g u) Q E s:=by
 obtain⟨t,e⟩:=Lx I ha;obtain⟨mA,ns,r,wi⟩:=Vl I hd;obtain⟨oD,Va,_⟩:=pX ns;obtain⟨cd,hc,_,rC⟩:=M.cls;refine wO (b:=λ_=>True) I.jH (ZX e Va) M hn λon tk=>?_
 have e':s.heap.get? a=some ⟨.ref C,some d,.fields #[.ref t,.none,.none,.none,.bool false,.none],#[]⟩:=e
 refine zaa (zaf (zaa (zaa (zdU e' (zaa (zbw (s:={s with toks:=s.toks+1}) (zcp I.jH hc) ?_))))))
 rw[rC];refine zaf (a:=some d) (zaa (zaf (zaa ?_)))
 refine wpAny_nsSet1 (s:={s with toks:=s.toks+1}) ns λh' Ka hs2=>?_
 obtain⟨oD',esD,epD,agC,hdD,hcD⟩:=Ka.count (PySem.Within.cons g u wi)
 have aoH:(1000:Nat)<=sizeLine:=by decide
 have hz:(fs.map (·.1)).length<1000:=by rw[zae];exact hl
 refine zaa (zdy agC (by rw[hdD];exact zdz (zai hcD (by rw[zaB];omega))) ?_)
 refine zaf (h _ ?_)
 refine I.ji (x:=d) (e:=d) (o:=ED d (gr g y fs)) (by rw[hd];exact True.intro) (.inl rfl) (λb z hb q=>(hs2.2 b hb).trans q) ⟨_,agC⟩ (Lu Ka (λf=>?_) (λf hf=>?_))
 ·show iG ((gr g y fs).lookup f) (if f=g then some u else mA f)
  rw[lY];by_cases q:f=g
  ·rw[if_pos q,if_pos q];exact ry
  ·rw[if_neg q,if_neg q];exact r f
 ·by_cases q:f=g
  ·rw[q];exact (jK g y fs).1
  ·refine (jK g y fs).2 f (wi f λz=>hf ?_)
   show (if f=g then some u else mA f)=none
   rw[if_neg q];exact z
noncomputable def agD (K:PySem.W.Frag)(ta tv:TE)(g:Str):TS:=λD σ H=>tv σ H λy H1=>ta σ H1 λx H2=>∃a C f bm,x = .ref a/\H2 a=some (EO a C none)/\oK K C f bm/\PySem.W.findIn K (.ref C) g=some none /\
 ∀d,H2 d=none->D.nx σ (bF (bF H2 d (ED d [(g,y)])) a (EO a C (some d)))
noncomputable def agE (K:PySem.W.Frag)(ta tv:TE)(g:Str):TS:=λD σ H=>tv σ H λy H1=>ta σ H1 λx H2=>∃a C f bm d fs,x = .ref a/\H2 a=some (EO a C (some d))/\H2 d=some (ED d fs)/\fs.length<1000/\oK K C f bm/\PySem.W.findIn K (.ref C) g=some none /\
 D.nx σ (bF H2 d (ED d (gr g y fs)))
theorem Rw (ha:PE X o ta)(hv:PE X value tv)(hs:autoParam (swapsWith value (some (.Attribute o g jI)) pos.line X.env=pure false) zp_0):PS X (.Assign [.Attribute o g jI] value pos) (agD X.K ta tv g):=by
 intro ah s σ H D I h;refine zbZ (cQ (hv ah s σ H _ I h) λu s1 ⟨y,H1,I1,ry,q⟩=>cQ (ha ah s1 σ H1 _ I1 q) λov s2 fC=>?_) hs
 obtain⟨x,H2,I2,rx,a,C,f,bm,ex,ea,M,n,q2⟩:=fC;subst ex;obtain rfl:ov=Value.ref a:=rx
 exact LA I2 M ea n ry λd s3 hd I3=>⟨σ,_,I3,q2 d hd⟩
theorem Rx (ha:PE X o ta)(hv:PE X value tv)(hs:autoParam (swapsWith value (some (.Attribute o g jI)) pos.line X.env=pure false) zp_0):PS X (.Assign [.Attribute o g jI] value pos) (agE X.K ta tv g):=by
 intro ah s σ H D I h;refine zbZ (cQ (hv ah s σ H _ I h) λu s1 ⟨y,H1,I1,ry,q⟩=>cQ (ha ah s1 σ H1 _ I1 q) λov s2 iV=>?_) hs
 obtain⟨x,H2,I2,rx,a,C,f,bm,d,fs,ex,ea,ed,hl,M,n,q2⟩:=iV;subst ex;obtain rfl:ov=Value.ref a:=rx
 exact LB I2 M ea ed hl n ry λs3 I3=>⟨σ,_,I3,q2⟩
section
variable {K:PySem.W.Frag}{C f B:Addr}
end
theorem aL.F7 {fp:List Addr}(I:aL X ah σ H s)(k:∀b o,b∉fp->s.heap.get? b=some o->h'.get? b=some o)
  (hf:∀b∈fp,pV X ah H b):aL X ah σ H {s with heap:=h',toks:=t' }:=by
 refine I.AG (g':=s.gens) (d':=s.drawn) (ch:=fp) (λb hb=>?_) (λb o _ _ hc e _=>k b o hc e) (λb o _ _ hc e _=>⟨o.slots,k b o hc e⟩) (λ_ _ _ _ n=>n)
  (λb o hc e=>⟨o,k b o hc e⟩) (λ_ _ e=>e) (λ_ _ _ e=>e) (λb ps e=>⟨#[],by rw[e];simp⟩) (λm hm=>?_) (λb u e=>?_) I.g5
 ·obtain⟨f0,f1,f2,f3,f4,f5⟩:=hf b hb
  exact⟨f3,f1,f4,f5⟩
 ·obtain⟨o,es,ep,ho,r⟩:=hm
  exact⟨o,es,ep,k _ o (λz=>(hf _ z).2.1 rfl) ho,r⟩
 ·refine (I.b_ b u e).pU (λc v hc q=>k c v (λz=>?_) q) (λ_ q=>q) λ_ _ q=>q
  have f0:=(hf c z).1
  rcases hc with z' | z'
  ·rw[z',e] at f0;cases f0
  ·rw[z'] at f0;cases f0
noncomputable def SqK (K:PySem.W.Frag)(κ:Bool)(H:Hp)(a:Addr)(xs:List V):Prop:=match κ with|true=>nI K H a xs|false=>jk K H a xs
noncomputable def nD (κ:Bool)(h:Heap)(it a:Addr)(i:Nat):Prop:=match κ with|true=>h.IsTupleIter it a i|false=>h.IsListIter it a i
noncomputable def tu (κ:Bool)(h:Heap)(a:Addr)(bu:Array Value):Prop:=match κ with|true=>h.IsTuple a bu|false=>h.IsList a bu
theorem nD.lW (st:nD κ h it a i):∃o,h.get? it=some o/\∀v,o.data ≠ .cell v:=by
 cases κ with
 |true=>obtain⟨o,e,c,d⟩:=st;exact⟨o,e,λv z=>by rw[d] at z;cases z⟩
 |false=>obtain⟨o,e,c,d⟩:=st;exact⟨o,e,λv z=>by rw[d] at z;cases z⟩
theorem nD.rq (st:nD κ h it a i)(k:∀o,h.get? it=some o->h'.get? it=some o):nD κ h' it a i:=by
 cases κ with
 |true=>obtain⟨o,e,r⟩:=st;exact⟨o,k o e,r⟩
 |false=>obtain⟨o,e,r⟩:=st;exact⟨o,k o e,r⟩
theorem tu.rq (st:tu κ h a bu)(k:∀o,h.get? a=some o->h'.get? a=some o):tu κ h' a bu:=by
 cases κ with
 |true=>obtain⟨o,e,r⟩:=st;exact⟨o,k o e,r⟩
 |false=>obtain⟨o,e,r⟩:=st;exact⟨o,k o e,r⟩
theorem nD.ne (st:nD κ h it a i)(so:tu κ h a bu):a≠it:=by
 intro z;subst z;cases κ with
 |true =>
  obtain⟨o,e,c,d⟩:=st;obtain⟨o',e',c',_⟩:=so;rw[e] at e';cases e'
  rw[c] at c';exact absurd c' (by decide)
 |false =>
  obtain⟨o,e,c,d⟩:=st;obtain⟨o',e',c',_⟩:=so;rw[e] at e';cases e'
  rw[c] at c';exact absurd c' (by decide)
theorem DW (hj:s.heap.IsTupleIter j tp n)(hp:s.heap.IsTuple tp vs)(hv:vs[n]? = some v)
  (k:∀h',h'.IsTupleIter j tp (n+1)->Heap.SameBut j s.heap h'->Q v {s with heap:=h' }):wpAny (model prog w) A (Builtin.SmallTypes.nextOf (.ref j)) Q E s:=by
 obtain⟨oj,ej,cj,dj⟩:=id hj;obtain⟨op,ep,_,m,dp⟩:=hp;have hn:¬ ((Value.ref tp == Value.none)=true):=zal
 unfold Builtin.SmallTypes.nextOf;refine zaa (zbE (name:=Str.ofString "__next__") hj.typeIs zbO (zbS zbO hj.typeIs zdg ?_ (zdb _)))
 show wpAny _ _ (field (.ref j) 0 >>= _) _ _ s
 refine zaa (zbr ej dj (x:=.ref tp) rfl ?_)
 show wpAny _ _ (if (Value.ref tp == Value.none)=true then _ else _) _ _ s
 rw[if_neg hn];show wpAny _ _ (field (.ref j) 1 >>= _) _ _ s
 refine zaa (zbr ej dj (x:=.int n 0) rfl ?_)
 show wpAny _ _ (seqItems? (.ref tp) >>= _) _ _ s
 refine zaa (wpAny_seqItems ep dp ?_)
 simp only[zbo,hv];refine zaa (zbG ej dj (by simp) (zaf ⟨v,rfl,zaf (k _ ⟨_,zaQ _ ej (zci (zbk dj _)),(Obj.cls_mapFields ..).trans cj,?_⟩ (zbW ..))⟩))
 rw[zbk dj];simp[rawInt]
theorem IC (hh:A.handled=none)(hj:s.heap.IsTupleIter j tp n)(hp:s.heap.IsTuple tp vs)(hv:vs[n]? = none)
  (k:∀h' x,Heap.ExtBut j s.heap h'->(∃o,h'.get? x=some o/\o.cls = .type "StopIteration")->E (.ref x) {s with heap:=h' }):wpAny (model prog w) A (Builtin.SmallTypes.nextOf (.ref j)) Q E s:=by
 obtain⟨oj,ej,cj,dj⟩:=id hj;obtain⟨op,ep,_,m,dp⟩:=hp;have hn:¬ ((Value.ref tp == Value.none)=true):=zal
 unfold Builtin.SmallTypes.nextOf;refine zaa (zbE (name:=Str.ofString "__next__") hj.typeIs zbO (zbS zbO hj.typeIs zdg ?_ (zdb _)))
 show wpAny _ _ (field (.ref j) 0 >>= _) _ _ s
 refine zaa (zbr ej dj (x:=.ref tp) rfl ?_)
 show wpAny _ _ (if (Value.ref tp == Value.none)=true then _ else _) _ _ s
 rw[if_neg hn];show wpAny _ _ (field (.ref j) 1 >>= _) _ _ s
 refine zaa (zbr ej dj (x:=.int n 0) rfl ?_)
 show wpAny _ _ (seqItems? (.ref tp) >>= _) _ _ s
 refine zaa (wpAny_seqItems ep dp ?_)
 simp only[zbo,hv];refine zaa (wpAny_rule (zaa (zbG ej dj (by simp) ?_)))
 show wpAny _ _ (newExc (.type "StopIteration") [] >>= _) _ _ _
 refine zaa ?_
 simp only[newExc,newTuple];refine zaa (zaS ?_ (by size_fits))
 refine zaa (m:=firstArgMember _ _) (wpAny_of_eq (a:=Value.none) (by first|rfl | (simp only[firstArgMember];rfl)) (zaS ?_ (by size_fits)))
 simp only[raiseNew];refine zaa (wpAny_handled ?_)
 first|rw[show A.in1.handled=none from hh]|rw[hh]
 exact zaa (zaf (wpAny_throw (k _ _ (((zbW ..).extBut.push _).push _) ⟨_,zap _ rfl,rfl⟩)))
theorem wQ (hh:A.handled=none)(κ:Bool)(it a:Addr)(Dd:a≠it)(bu:Array Value):
    Draws P w A it [it,a] bu.size (λi v=>bu[i]? = some v) (λi h=>nD κ h it a i/\tu κ h a bu):=by
  cases κ with
  |false=>exact Draws.list hh it a Dd bu
  |true =>
    exact { live:=λi h st=>let ⟨o,e,_⟩:=st.1;⟨o,e⟩
            frame:=λi h h' st k=>⟨st.1.rq λo e=>k it (by simp) o e,st.2.rq λo e=>k a (by simp) o e⟩
            item:=λi s Q E hi st k=>DW st.1 st.2 (v:=bu[i]) (by simp[hi]) λh' AL sb=>k _ h' s.toks (by simp[hi]) ⟨AL,Heap.IsTuple.extBut st.2 sb.extBut Dd⟩ sb
            done:=λs Q E st k=>IC hh st.1 st.2 (by simp) k}
theorem A3 {St:Nat->Heap->Prop}(D:Draws P w A it fp n Y St)(k:Nat):
  Draws P w A it fp (n+k) (λi v=>Y (i - k) v) (λi h=>k<=i/\St (i - k) h) where
 live:=λi h st=>D.live _ _ st.2
 frame:=λi h h' st q=>⟨st.1,D.frame _ _ _ st.2 q⟩
 item:=λi s Q E hi st q=>D.item (i - k) s Q E (by have:=st.1;omega) st.2 λx h' tk p AL sb=>q x h' tk p ⟨Nat.le_succ_of_le st.1,by rw[Nat.succ_sub st.1];exact AL⟩ sb
 done:=λs Q E st q=>D.done s Q E (by have:=st.2;rwa[Nat.add_sub_cancel] at this) q
theorem aL.src (I:aL X ah σ H s)(h:SqK X.K κ H a xs):∃bu:List Value,bL xs bu/\tu κ s.heap a bu.toArray/\xs.length<=sizeLine:=by
 cases κ with
 |true =>
  obtain⟨bu,r,p,z⟩:=I.fQ h;exact⟨bu,r,p,z⟩
 |false =>
  obtain⟨bu,r,p,z⟩:=I.list h;exact⟨bu,r,p.isList,z⟩
theorem aL.Ry (I:aL X ah σ H s)(h:SqK X.K κ H a xs)(h':SqK X.K κ H a ys):xs=ys:=by
 cases κ with
 |true=>exact I.wD h h'
 |false=>exact I.AK h h'
noncomputable def Ite (K:PySem.W.Frag)(κ:Bool)(a:Addr)(st:Nat):It:=
 ⟨λi H=>∃xs x,SqK K κ H a xs/\xs[i]? = some x,λi H y H'=>∃T x,H T=none/\y = .ref T/\H'=bF H T (.gE [.int ((st+i:Nat):Int),x])/\∀xs,SqK K κ H a xs->xs[i]? = some x,λi H=>∃xs,SqK K κ H a xs/\xs.length=i⟩
theorem aL.ZZ {fp:List Addr}(I:aL X ah σ H s)(hf:∀b∈fp,pV X ah H b)(rx:bI x u)(ry:bI y v)
  (lt:∀b∈fp,b<s.heap.objs.size) (hT:h'.get? s.heap.objs.size=some { cls:=.type "tuple",data:=.seq #[u,v]}) (k:∀b o,b∉fp->s.heap.get? b=some o->h'.get? b=some o):
  aL X ah σ (bF H s.heap.objs.size (.gE [x,y])) {s with heap:=h',toks:=t' }/\∀b∈fp,bF H s.heap.objs.size (.gE [x,y]) b=none:=by
 have ne:∀b∈fp,b≠s.heap.objs.size:=λb hb=>zar (lt b hb)
 have fr:∀b∈fp,bF H s.heap.objs.size (.gE [x,y]) b=none:=λb hb=>by rw[au (ne b hb)];exact (hf b hb).1
 have I1:=I.jF (h':=s.heap.push { cls:=.type "tuple",data:=.seq #[u,v]}) (t':=t') (a:=s.heap.objs.size) (o:=.gE [x,y]) (λb o e=>zac _ e) (zah _)
  (show cD X.prog X.w _ _ _ (.gE [x,y]) from ⟨(by show 2<=sizeLine;decide),[u,v],.cons rx (.cons ry .nil),IsTup.new _ _⟩)
 refine⟨aL.F7 (s:={ s with heap:=s.heap.push { cls:=.type "tuple",data:=.seq #[u,v]},toks:=t' }) (t':=t') (fp:=fp) I1 (λb o hb e=>?_) λb hb=>⟨fr b hb,(hf b hb).2⟩,fr⟩
 have e:(s.heap.push { cls:=.type "tuple",data:=.seq #[u,v]}).get? b=some o:=e
 by_cases z:b=s.heap.objs.size
 ·subst z
  rw[zap _ rfl] at e;cases e;exact hT
 ·rw[Heap.get?_push_ne _ _ _ z] at e
  exact k b o hb e
theorem ID {P:Program}{w:World}{K:PySem.W.Frag}{Rz:List Expr}{x1}{pos:Pos}(κ:Bool)(a e it:Addr)(st:Nat)(Dd:e≠it):
  Ia P w K (.Tuple Rz x1 pos) (Ite K κ a st) [e,it] e (λi h=>(∃Ro,IsEnum h e it ((st+i:Nat):Int) Ro)/\nD κ h it a i) where
 mem:=by simp
 lW:=λi h t b hb=>by
  obtain⟨⟨Ro,he⟩,hi⟩:=t
  rcases zan.mp hb with rfl|hb
  ·exact⟨_,he,λv z=>by cases z⟩
  ·rw[zau.mp hb]
   exact hi.lW
 keep:=λi h h' t k=>by
  obtain⟨⟨Ro,he⟩,hi⟩:=t
  exact⟨⟨Ro,k e (by simp) _ he⟩,hi.rq λo q=>k it (by simp) o q⟩
 item:=by
  intro X hP hw hK hc i ah s σ H E I hf t hg;subst hP hw hK;obtain⟨⟨Ro,he⟩,hi⟩:=t
  obtain⟨xs,x,hq,hx⟩:=hg;obtain⟨bu,rv,so,hz⟩:=I.src hq;obtain⟨u,hu,ru⟩:=rv.get hx;have hai:=hi.ne so;have hae:e≠a:=λz=>by
   subst z;cases κ with
   |true=>obtain⟨o',e',c',_⟩:=so;rw[he] at e';cases e';exact absurd (show Value.type "enumerate"=Value.type _ from c') (by decide)
   |false=>obtain⟨o',e',c',_⟩:=so;rw[he] at e';cases e';exact absurd (show Value.type "enumerate"=Value.type _ from c') (by decide)
  have jg:i<bu.toArray.size:=by
   have:=(zab.mp hu).1
   simpa using this
  have D:=A3 (wQ (P:=X.prog) (w:=X.w) (A:=X.A.in1) (show X.A.in1.handled=none from I.ok.hd hc) κ it a hai bu.toArray) st
  have pQ:st<=st+i/\(nD κ s.heap it a (st+i - st)/\tu κ s.heap a bu.toArray):=⟨zcm _ _,by rw[zdG];exact hi,so⟩
  refine wpAny_pyNext_enum_itemD (i:=st+i) D he pQ (by omega) Dd (by simp;exact⟨Dd,hae⟩) λv h' tk hv DX AL hT hsz kk=>⟨_,rfl,?_⟩
  have ev:v=u:=by
   have hv':bu.toArray[st+i - st]? = some v:=hv
   rw[zdG] at hv';have hu':bu.toArray[i]? = some u:=by simpa using hu
   rw[hu'] at hv';exact (zav hv').symm
  subst ev;refine wpAny_letOwnedTupleGo_enum (s:={s with heap:=h',toks:=tk+1}) DX λh2 he2 sb2=>?_
  have sb2:Heap.SameBut e h' h2:=sb2
  have v8:e<s.heap.objs.size:=zam he
  have ilt:it<s.heap.objs.size:=by obtain⟨o,q,_⟩:=hi.lW;exact zam q
  obtain⟨I2,fr⟩:=I.ZZ (h':=h2) (t':=tk+1) (fp:=[e,it]) (x:=.int ((st+i:Nat):Int)) (y:=x) (u:=.int ((st+i:Nat):Int) tk) (v:=v) hf ⟨_,rfl⟩ ru
   (λb hb=>by
    rcases zan.mp hb with rfl|hb
    ·exact v8
    ·rw[zau.mp hb];exact ilt)
   ((sb2.2 _ (zbQ v8)).trans hT) (λb o hb q=>(sb2.2 b λz=>hb (by simp[z])).trans (kk b o (λz=>hb (by simp[z])) (λz=>hb (by simp[z])) q))
  refine⟨.ref s.heap.objs.size,_,I2,rfl,⟨s.heap.objs.size,x,I.b_.fresh (zah _),rfl,rfl,λys hy=>by rw[I.Ry hy hq];exact hx⟩,⟨⟨v,?_⟩,?_⟩,fr⟩
  ·have e1:((st+(i+1):Nat):Int)=((st+i:Nat):Int)+1:=by omega
   rw[e1];exact he2
  ·have q:=AL.2.1
   have e2:st+i+1 - st=i+1:=by omega
   rw[e2] at q;exact q.rq λo z=>(sb2.2 it Dd.symm).trans z
 done:=by
  intro X hP hw hK hc i ah s σ H E I hf t hg;subst hP hw hK;obtain⟨⟨Ro,he⟩,hi⟩:=t
  obtain⟨xs,hq,hx⟩:=hg;obtain⟨bu,rv,so,hz⟩:=I.src hq;have hai:=hi.ne so;have D:=wQ (P:=X.prog) (w:=X.w) (A:=X.A.in1) (show X.A.in1.handled=none from I.ok.hd hc) κ it a hai bu.toArray
  have hn:bu.toArray.size=i:=by
   have:=rv.length
   simp
   omega
  exact wpAny_pyNext_enum_endD D he (by rw[hn];exact⟨hi,so⟩) λh' eb=>⟨rfl,I.F7 (fp:=[e,it]) (t':=s.toks) (λb o hb q=>eb b o (λz=>hb (by simp[z])) q) hf⟩
 self:=λ_ _ _ _ _ t h=>let ⟨⟨_,he⟩,_⟩:=t;wpAny_pyIter_enum he h
noncomputable def al4 (tv:TE):TE:=λσ H Q=>tv σ H λv H1=>(∃x,v = .str x/\x.length<=sizeLine/\Q (.str x) H1)\/(∃i:Int,v = .int i/\i.natAbs.log2<1920/\Q (.str (toString i)) H1)
theorem Z0 (h:PE X value tv):PE X (.FormattedValue value (-1) none pos) (al4 tv):=by
 intro ah s σ H Q I hq;refine FormattedValue_plain (cQ (h ah s σ H _ I hq) λv s1 cy=>?_)
 obtain⟨y,H1,I1,r,q⟩:=cy;rcases q with⟨x,rfl,hz,q⟩|⟨i,rfl,hd,q⟩
 ·obtain⟨t,rfl⟩:=r
  exact formatField_str (λt' tk=>⟨.str x,H1,I1.nH tk,⟨_,rfl⟩,q⟩) hz
 ·obtain⟨t,rfl⟩:=r
  exact formatField_int_small hd ⟨.str (toString i),H1,I1.nH _,⟨_,rfl⟩,q⟩
noncomputable abbrev TJ:=Str->TE
noncomputable def PJ (X:Cx)(es:List Expr)(t:TJ):Prop:=
 ∀(cA:Str) (ah:List (Addr×Obj)) (s:Shared) (σ:St) (H:Hp) (Q:VK),aL X ah σ H s->t cA σ H Q->wpAny (model X.prog X.w) X.A (joinParts cA (evalEach es X.env)) (EP X ah σ Q) X.xe s
noncomputable def agG:TJ:=λcA _ H Q=>cA.length<=sizeLine/\Q (.str cA) H
noncomputable def Z1 (te:TE)(tr:TJ):TJ:=λcA σ H Q=>te σ H λv H1=>∃y,v = .str y/\(cA++y).length<=sizeLine/\tr (cA++y) σ H1 Q
theorem Z2:PJ X [] agG:=λcA ah s σ H Q I h=>joinParts_nil ⟨.str cA,H,I.nH _,⟨_,rfl⟩,h.2⟩ h.1
theorem RA (he:PE X e te)(hr:PJ X es tr):PJ X (e::es) (Z1 te tr):=by
 intro cA ah s σ H Q I h;show wpAny _ _ (joinParts cA (eval e X.env::evalEach es X.env)) _ _ _
 refine joinParts_cons (cQ (he ah s σ H _ I h) λv s1 dR=>?_)
 obtain⟨z,H1,I1,r,y,ez,hz,q⟩:=dR;subst ez;obtain⟨t,rfl⟩:=r;exact⟨hz,hr _ ah s1 σ H1 Q I1 q⟩
theorem RB (h:PJ X (e1::e2::es) t):PE X (.JoinedStr (e1::e2::es) pos) (t Str.empty):=λah s σ H Q I hq=>JoinedStr_many (h Str.empty ah s σ H Q I hq)
theorem tw:bootBuiltins "enumerate"=some (.type "enumerate"):=by decide +kernel
noncomputable def iEn (K:PySem.W.Frag)(st:Nat)(ta:TA):TI:=λσ H R=>ta σ H λvs H1=>∃a xs,vs=[.ref a]/\jk K H1 a xs/\R (Ite K false a st) H1
theorem RC {x1}{st:Nat}(I:aL X ah σ H s)(he:IsEnum h' (s.heap.objs.size+1) s.heap.objs.size ((st:Nat):Int) .none)
  (hi:h'.IsListIter s.heap.objs.size a 0) (k:∀b o,s.heap.get? b=some o->h'.get? b=some o) (q:R (Ite X.K false a st) H):
  wpAny (model X.prog X.w) X.A (pyIter (.ref (s.heap.objs.size+1))) (PIE X ah σ (.Tuple Rz x1 tp) R) X.xe {s with heap:=h' }:=by
 refine wpAny_pyIter_enum he ?_
 refine⟨s.heap.objs.size+1,[s.heap.objs.size+1,s.heap.objs.size],_,Ite X.K false a st,H,rfl,I.gZ (t':=s.toks) k,ID false a _ _ st (Nat.succ_ne_self _),⟨⟨.none,he⟩,hi⟩,λb hb=>?_,q⟩
 rcases zan.mp hb with rfl|hb
 ·exact I.Ds (zbb _) (I.b_.fresh (zbb _))
 ·rw[zau.mp hb]
  exact I.Ds (zah _) (I.b_.fresh (zah _))
theorem RD {x1}(hg:Gl X "enumerate")(hm:X.mg "enumerate"=none)(ha:PA X [a] ta)(hs:autoParam (starEach [a] X.env=[(false,eval a X.env)]) zp_0):
  PI X (.Tuple Rz x1 tp) (.Call (.Name "enumerate" p) [a] [] pos) (iEn X.K 0 ta):=by
 intro ah s σ H R I h;refine Call_ (sM I hg hm tw (zck (cQ (ha pos ah s σ H _ I h) λus s1 fC=>?_) hs rfl))
 obtain⟨vs,H1,I1,r1,l,xs,ev,hl,q⟩:=fC;subst ev;obtain⟨u,rfl,ru⟩:=r1.HZ;cases (show u=Value.ref l from ru)
 obtain⟨bu,r,pl,hz⟩:=I1.list hl;exact call_enumerate_list pl.isList λh' he hi _ k=>RC I1 he hi k q
section
variable {prog:Program}{w:World}{A:Around}{E:Value->Shared->Prop}{s:Shared}{Z TI TO i1 i2:Addr}{fp1 fp2:List Addr}{n1 n2 k:Nat}{Y1 Y2:Nat->Value->Prop}{S1 S2:Nat->Heap->Prop}{p q:Value}
end
open AutoSeq1 (wpAny_loadPart')
theorem LC (a b:Str):(a++b).cps.toList=a.cps.toList++b.cps.toList:=by rw[Str.cps_append,Array.toList_append]
end L2
namespace L2
open PySem PySem.Spec PyProof.Rows
theorem RE (S:dD X F T fr sc)(hc:X.fX=true)(hi:PI X target d9 wi)
  (hg:∀C fp s H xe,PG (qP X (F++T) sc C fp s H xe) target g) (Rn:∀C fp s H xe,DQ (qP X (F++T) sc C fp s H xe) rB ti) (he:∀C fp s H xe,PE (qP X (F++T) sc C fp s H xe) v8 te)
  (hN:X.N.Nodup) (hiy:X.N[i0]? = some y) (hly:X.env.scope.names.lookup y=some .local) (hex:X.ex=[])
  (RG:autoParam (swapsWith (.ListComp v8 [⟨target,d9,rB,0⟩] sc pos) (some (.Name y py)) Z3.line X.env=pure true) zp_0) (hs:autoParam (∀x,foldedSetIterable d9 X.env x=pure x) zp_3):PS X (.Assign [.Name y py] (.ListComp v8 [⟨target,d9,rB,0⟩] sc pos) Z3) (QE (F5 wi fr T g ti te) (FG i0)):=by
 intro ah s σ H DD I h;rw[exec_Assign_Name_used _ _ _ _ RG];refine zaa (zcI (zaa ?_))
 show wpAny _ X.A (do let _ <-comprehension (.ListComp v8 [⟨target,d9,rB,0⟩] sc pos) sc X.env _ (newList []) false (eval d9 X.env) (some (assign (.Name y py) X.env))) _ _ s
 refine zaa (zaH (A1 (use:=some (assign (.Name y py) X.env)) (QQ:=λ_ s'=>SP X ah DD .next s') S hc hi hg Rn he hs I h λD C fp s3 s7 H3 H6 xe KL I3 f3 Rp I7 qn=>?_) (λ_ s' hq=>zaf (zaf hq)) λ_ _ e=>e)
 obtain⟨m7,hn7,_⟩:=I7.Ay;have hCn:H6 C=none:=I7.free
 have I8:aL X ah σ H6 s7:=I3.AH (s':=s7) (H':=H6) (ch:=fp) I7.os I7.base I7.b_ I7.g5 λb hb=>by
  obtain⟨_,q1,_,q2,q3,q4⟩:=f3 b hb;exact⟨q2,q1,q3,q4⟩
 have Cge:X.s₀.heap.objs.size<=C:=by rw[<-Rp];exact I3.sz
 have CL:C≠X.env.locals:=λz=>by
  have:=I3.lt
  rw[<-z,<-Rp] at this;exact zaJ _ this
 have CC:∀z c,X.env.cells.lookup z=some c->c≠C:=λz c e q=>by
  obtain⟨v,hv⟩:=I3.cell z c e
  have:=hv.lt
  rw[q,<-Rp] at this;exact zaJ _ this
 have CP:∀p∈X.pn++ah,p.1≠C:=λp hp q=>by
  have:=zam (I3.AF p hp).1
  rw[q,<-Rp] at this;exact zaJ _ this
 show wpAny _ X.A (assign (.Name y py) X.env (.ref D)) _ _ s7
 refine wpAny_assign_Name (wA I8 hN hiy (.inl hly) (v:=.ref D) rfl (λs8 I9 sb=>?_) (.inr hly))
 obtain⟨a8,sb8,ha8⟩:=sb;have a8C:C≠a8:=by
  rcases ha8 with z|z
  ·rw[z];exact CL
  ·exact zbc (CC _ _ z)
 refine⟨m7,hn7.sameBut sb8 a8C,λh9 hs9=>⟨_,H6,?_,qn⟩⟩
 exact I9.j_ (it:=C) (t':=s8.toks) (λb o nb e=>(hs9.2 b nb).trans e) hCn CL (.inr Cge) CC CP
noncomputable def Z4:V->List V->Hp->VK->Prop:=λx vs H Q=>∃(l:Addr) (xs:List V) (y z:V) (j:Nat),x = .ref l/\vs=[y]/\H l=some (.bM xs)/\iA y=true/\xs.all iA=true/\xs[j]? = some z/\zd z y=true/\(∀m z',m<j->xs[m]? = some z'->zd z' y=false)/\Q (.int (j:Int)) H
theorem LD:MtM X "list.index" Z4:=by
 intro ah s σ H x vs v us Q I rx rv h;obtain⟨l,xs,y,z,j,rfl,rfl,hH,fy,fs,hj,he,hno,q⟩:=h;cases rx;obtain⟨u,rfl,ru⟩:=rv.HZ;obtain⟨hz,bu,n,r,hl,e⟩:=I.Iu hH;have hs:sizeLine=16777216:=by decide
 have jl:j<bu.length:=by rw[<-hl];exact (zab.mp hj).1
 have rq:∀(m:Nat) (hm:m<bu.length),∃z',xs[m]? = some z'/\AX y bu[m]=zd z' y:=λm hm=>by
  have hm':m<xs.length:=by omega
  obtain⟨w',hw,DJ⟩:=r.get (zad hm')
  have ew:bu[m]=w':=by
   rw[zad hm] at hw;exact zav hw
  refine⟨_,zad hm',?_⟩
  rw[ew];exact DO DJ (zaK.mp fs _ (zcn _))
 refine call_meets F.slot_list_index ⟨_,e,rfl⟩ F.entry_list_index (F.args_list_index_2 _ _)
  (SeqAt.list_indexAt l bu.toArray n none #[] u (AX y) j (by simpa using jl) (by omega) ?_ ?_) ⟨e,?_,⟨.int (j:Int),H,I.nH _,⟨_,rfl⟩,q⟩⟩
 ·obtain⟨z',e1,e2⟩:=rq j jl
  rw[hj] at e1;cases e1;have:bu.toArray[j]'(by simpa using jl)=bu[j]:=by simp
  rw[this,e2];exact he
 ·intro m hm hmj
  have hm':m<bu.length:=by simpa using hm
  obtain⟨z',e1,e2⟩:=rq m hm';have:bu.toArray[m]'hm=bu[m]:=by simp
  rw[this,e2];exact hno m z' hmj e1
 ·intro w' hw
  exact jM ru fy r fs w' (by simpa using hw)
noncomputable def iB (C:Addr)(od:Option Addr)(t:Addr)(tb:Value):Obj:={cls:=.ref C,dict:=od,data:=.fields #[.ref t,tb,.none,.none,.bool false,.none]}
noncomputable def tD (h:Heap)(T:Addr):Prop:=∃oT ts,h.get? T=some oT/\oT.data = .fields ts/\ts[3]? = some Value.none
section
variable {M:Model}{A:Around}{E:Value->Shared->Prop}{s:Shared}
structure LG (S:List Addr) (a C t:Addr) (od:Option Addr) (h h':Heap) (T:Addr):Prop where
 lW:h'.get? a=some (iB C od t (.ref T))
 tb:tD h' T
 new:h.objs.size<=T
 keep:∀b o,h.get? b=some o->b≠a->b∉S->h'.get? b=some o
 slot:∀b o,h.get? b=some o->b≠a->∃sl,h'.get? b=some {o with slots:=sl}
theorem wR 
  (IE:A.frames=some (env::outer)) (hl:s.heap.FunFrames base (env::outer)) (hf:env.frame=some L) (ha:s.heap.get? a=some (iB C od t tb))
  (k:∀h' T,LG ((env::outer).filterMap (·.frame)) a C t od s.heap h' T->Q () {s with heap:=h' }):
  wpAny M A (do let fr <-frameOf env;let pl <-entryPlaceOf L akr;let b <-EntryCells.newEntry head fr .none (rawInt L) .none pl;setField (.ref a) 1 b) (λ_ s'=>wpAny M A (setFlight (.ref a) none) Q E s') E s:=by
 have na:a∉(env::outer).filterMap (·.frame):=λhm=>by
  obtain⟨_,o,ho,hnf⟩:=hl.mem hm;rw[ha] at ho;cases ho;exact hnf _ rfl
 refine zaa (wpAny_frameOf_fun IE hl hf λg1 DY=>zaa (wpAny_entryPlaceOf λpl hpl=>?_))
 unfold EntryCells.newEntry newFields;refine zaa (zaS ?_ (hpl.sizeOk5 _ _ _ _ _))
 have LH:g1.get? a=some (iB C od t tb):=(DY.2.1 a na).trans ha
 generalize hts:([head,Value.ref L,Value.none,rawInt L,Value.none]++(if pl.isEmpty then List.replicate 6 Value.none else pl)).toArray=ts
 have h3:3<ts.size:=by rw[<-hts];simp only[zao,zag,zaB,zbM];omega
 have Vm:(g1.push { cls:=.type "traceback",dict:=none,data:=.fields ts}).get? a=some (iB C od t tb):=zac _ LH
 have Ta:g1.objs.size≠a:=zbQ (zam LH)
 refine zbG Vm rfl (by show 1<6;decide) ?_
 have ha3:((g1.push { cls:=.type "traceback",dict:=none,data:=.fields ts}).update a (Obj.mapFields (·.setIfInBounds 1 (Value.ref g1.objs.size)))).get? a=some (iB C od t (.ref g1.objs.size)):=by
  rw[zaQ _ Vm rfl];rfl
 have Z5:((g1.push { cls:=.type "traceback",dict:=none,data:=.fields ts}).update a (Obj.mapFields (·.setIfInBounds 1 (Value.ref g1.objs.size)))).get? g1.objs.size=some { cls:=.type "traceback",dict:=none,data:=.fields ts}:=
  (zaA _ _ (zbc Ta)).trans (zap g1 rfl)
 unfold setFlight;refine zaa (zbr ha3 rfl (x:=.ref g1.objs.size) rfl ?_)
 rw[if_pos (show (Value.ref g1.objs.size != Value.none)=true from by simp)]
 refine zbG Z5 rfl h3 (k _ g1.objs.size ?_)
 have keep:∀b o,b≠a->g1.get? b=some o->(((g1.push { cls:=.type "traceback",dict:=none,data:=.fields ts}).update a (Obj.mapFields (·.setIfInBounds 1 (Value.ref g1.objs.size)))).update g1.objs.size
   (Obj.mapFields (·.setIfInBounds 3 ((none:Option Addr).elim Value.none λf=>rawInt f)))).get? b=some o:=λb o nb hb=>by
  have hbT:g1.objs.size≠b:=zbQ (zam hb)
  rw[zaA _ _ hbT,zaA _ _ (zbc nb)];exact zac _ hb
 refine⟨?_,⟨_,_,zaQ _ Z5 rfl,rfl,by simp[h3]⟩,by rw[DY.1];exact zah _,λb o hb nb nS=>keep b o nb ((DY.2.1 b nS).trans hb),λb o hb nb=>?_⟩
 ·rw[zaA _ _ Ta]
  exact ha3
 ·obtain⟨sl,hs⟩:=DY.2.2 b o hb
  exact⟨sl,keep b _ nb hs⟩
theorem A4 
  (IE:A.frames=some (env::outer)) (hl:s.heap.FunFrames base (env::outer)) (hf:env.frame=some L) (ha:s.heap.get? a=some (iB C od t .none))
  (k:∀h' T,LG ((env::outer).filterMap (·.frame)) a C t od s.heap h' T->Q () {s with heap:=h' }):wpAny M A (leaving env (.ref a)) Q E s:=by
 unfold leaving noteFrame;simp only[hf];refine zaa (zaa (zbr ha rfl (x:=.none) rfl ?_))
 rw[if_neg (by decide)]
 exact wR IE hl hf ha k
theorem wU 
  (IE:A.frames=some (env::outer)) (hl:s.heap.FunFrames base (env::outer)) (hf:env.frame=some L) (ha:s.heap.get? a=some (iB C od t (.ref T))) (hT:tD s.heap T) (nT:T≠a)
  (k:∀h1 h' T',(∀b o,b≠T->s.heap.get? b=some o->h1.get? b=some o)->tD h1 T->h1.objs.size=s.heap.objs.size->LG ((env::outer).filterMap (·.frame)) a C t od h1 h' T'->Q () {s with heap:=h' }):wpAny M A (noteFrame (.ref a) env) (λ_ s'=>wpAny M A (setFlight (.ref a) none) Q E s') E s:=by
 obtain⟨oT,ts,eT,dT,h3⟩:=hT;unfold noteFrame;simp only[hf];refine zaa (zbr ha rfl (x:=.ref T) rfl ?_)
 rw[if_pos (show (Value.ref T != Value.none)=true from by simp)]
 refine zaa (zbr eT dT h3 ?_)
 rw[if_neg (show ¬ ((Value.none == rawInt L)=true) from by simp[rawInt])]
 have sz:=(zdk.mp h3).1
 refine zaa (zbG eT dT sz ?_)
 have Fx:∀b o,b≠T->s.heap.get? b=some o->(s.heap.update T (Obj.mapFields (·.setIfInBounds 3 Value.none))).get? b=some o:=λb o nb e=>(zaA _ _ (zbc nb)).trans e
 have fT:(s.heap.update T (Obj.mapFields (·.setIfInBounds 3 Value.none))).get? T=some (Obj.mapFields (·.setIfInBounds 3 Value.none) oT):=zaQ _ eT (zci (zbk dT _))
 have hl':(s.heap.update T (Obj.mapFields (·.setIfInBounds 3 Value.none))).FunFrames base (env::outer):=hl.of_keeps λb o hb hnf=>⟨o,Fx b o (λq=>by rw[q,eT] at hb;cases hb;exact hnf ts dT) hb,rfl⟩
 refine wR (s:={s with heap:=s.heap.update T (Obj.mapFields (·.setIfInBounds 3 Value.none))}) IE hl' hf (Fx a _ (zbc nT) ha) λh' T' lf=>k _ h' T' Fx ⟨_,_,fT,zbk dT _,by simp[sz]⟩ ?_ lf
 exact (zbW ..).1
end
theorem IG (hh:A.handled=none)
  (h:wpAny M A x (λv s1=>∃(a t:Addr) (od:Option Addr) (nm q:Str) (C N:Addr) (bs bm:List Value) (rC:Bool) (sn:List Str) (sub:List Value) (ab:Bool) (s_:Option Bool) (dd:Option Addr) (k0 k1 k2 k3 k5:Option Value) (oM:String),v = .ref a /\
   bm.contains (.type "BaseException")=true/\s1.heap.get? C=some (excClassObj nm q C N bs bm rC sn sub ab s_ dd k0 k1 k2 k3 k5 oM)/\s1.heap.get? a=some (kD C od t)/\E (.ref a) s1) E s):wpAny M A (raiseStmt env (some x) none) Q E s:=by
 unfold raiseStmt;refine zaa (zaH h (λv s1 h1=>?_) λ_ _ z=>z)
 obtain⟨a,t,od,nm,q,C,N,bs,bm,rC,sn,sub,ab,s_,dd,k0,k1,k2,k3,k5,oM,rfl,hb,hC,ha,hE⟩:=h1;have hcb:(Value.ref C::bm).contains (.type "BaseException")=true:=by rw[zbx,hb,zcy]
 unfold kD at ha;obtain⟨hp,g,d,tk,os⟩:=s1;repeat (first|with_reducible refine zbB ha ?_|with_reducible refine zbB hC ?_ | (with_reducible refine zcq hC ?_;rw[hcb])|wp_step)
 exact wpAny_raiseNew_none hh hE
noncomputable def oN (a C:Addr)(od:Option Addr)(T:Addr):HO:=.ext λh=>∃t:Addr,h.get? a=some (iB C od t (.ref T))
noncomputable def TB (T:Addr):HO:=.ext λh=>tD h T
theorem LI (e:h.get? a=some (iB C od t (.ref T))):cD P w H h a (oN a C od T):=
 ⟨⟨t,e⟩,⟨_,e⟩,λh1 h2 cy k=>by obtain⟨t',e'⟩:=cy;exact⟨t',k _ e'⟩⟩
theorem F8 (e:tD h T):cD P w H h T (TB T):=by
 obtain⟨oT,ts,e1,e2,e3⟩:=id e;exact⟨e,⟨_,e1⟩,λh1 h2 dR k=>by obtain⟨o,ts',x1,x2,x3⟩:=dR;exact⟨o,ts',k _ x1,x2,x3⟩⟩
noncomputable def qa (P:Program)(w:World):AM:=λouter H s E e s'=>∃(a T C:Addr) (od:Option Addr) (H':Hp),e = .ref a/\s'.os=s.os/\AllBare s'.gens/\Un (rP outer) [] H H' s.heap s'.heap/\mS P w H' s'.heap /\
 H' a=some (oN a C od T)/\H' T=some (TB T)/\T≠a/\E (.ref C) (some a) H'
noncomputable def Z6 (K:PySem.W.Frag)(E:XK)(te:TE):TS:=λ_ σ H=>te σ H λv H1=>∃(a C f:Addr) (bm:List Value) (od:Option Addr),v = .ref a/\H1 a=some (EO a C od)/\oK K C f bm /\
 ∀T,H1 T=none->T≠a->E (.ref C) (some a) (bF (bF H1 a (oN a C od T)) T (TB T))
section
variable {P:Program}{w:World}{K:PySem.W.Frag}{mg:Str->Option Value}{base:Heap}{N:List Str}{bW:Str}{scope:Scope}{f:Addr}{eZ:Value}{A:Around}{outer:List Env}{s₀:Shared}{H₀:Hp}{E:XK}
theorem RH (I:aL (ic (qa P w) P w K mg base N bW scope f eZ A outer s₀ H₀ E) ah σ H s)(ha:∃ φ,H a=some (.ext φ))(Ta:T≠a)
  (Lf:LG (rP ((ic (qa P w) P w K mg base N bW scope f eZ A outer s₀ H₀ E).env::outer)) a C t od s.heap h' T):
  Un (rP outer) [] H₀ (bF (bF H a (oN a C od T)) T (TB T)) s₀.heap h'/\mS P w (bF (bF H a (oN a C od T)) T (TB T)) h':=by
 obtain⟨φ,ha⟩:=ha;have hT:H T=none:=I.b_.fresh Lf.new
 have lt:∀b o,s₀.heap.get? b=some o->b<s₀.heap.objs.size:=λb o e=>zam e
 have sz:s₀.heap.objs.size<=s.heap.objs.size:=I.sz
 have bT:∀b o,s₀.heap.get? b=some o->b≠T:=λb o e=>zar (zak (lt b o e) (zai sz Lf.new))
 have nf:∀b o,s₀.heap.get? b=some o->b∉rP outer->b∉rP ((ic (qa P w) P w K mg base N bW scope f eZ A outer s₀ H₀ E).env::outer):=λb o e nb z=>by
  have z':b∈((ic (qa P w) P w K mg base N bW scope f eZ A outer s₀ H₀ E).env::outer).filterMap (·.frame):=z
  rw[zco] at z';have:b=s₀.heap.objs.size\/b∈rP outer:=by
   have z2:b∈s₀.heap.objs.size::outer.filterMap (·.frame):=z'
   exact zan.mp z2
  rcases this with q|q
  ·exact absurd (lt b o e) (by rw[q];exact zaJ _)
  ·exact nb q
 have U:=I.base;refine⟨⟨λb o e n1 n2 n3=>?_,λb o e n1 n2 n3=>?_,λb o e n1 n2=>?_,λb o e n2=>?_,λb xs e=>?_,λb o u e=>?_,λb ps e=>?_⟩,λb u e=>?_⟩
 ·have e1:=U.keep b o e n1 n2 n3
  have nb:b≠a:=λz=>by
   have:=U.free b o e n1 n3
   rw[z,ha] at this;cases this
  exact Lf.keep b o e1 nb (nf b o e n2)
 ·obtain⟨sl,e1⟩:=U.slot b o e n1 n2 n3
  have nb:b≠a:=λz=>by
   have:=U.free b o e n1 n3
   rw[z,ha] at this;cases this
  obtain⟨K_,e2⟩:=Lf.slot b _ e1 nb;exact⟨K_,e2⟩
 ·have e1:=U.free b o e n1 n2
  have nb:b≠a:=λz=>by rw[z,ha] at e1;cases e1
  rw[au (bT b o e),au nb];exact e1
 ·obtain⟨o',e1⟩:=U.there b o e n2
  by_cases z:b=a
  ·rw[z];exact⟨_,Lf.lW⟩
  ·obtain⟨sl,e2⟩:=Lf.slot b o' e1 z
   exact⟨_,e2⟩
 ·have e1:=U.sE b xs e
  have nb:b≠a:=λz=>by rw[z,ha] at e1;cases e1
  have nT:b≠T:=λz=>by rw[z,hT] at e1;cases e1
  rw[au nT,au nb];exact e1
 ·have e1:=U.q_ b o u e
  have nb:b≠a:=λz=>by rw[z,ha] at e1;cases e1
  have nT:b≠T:=λz=>by rw[z,hT] at e1;cases e1
  rw[au nT,au nb];exact e1
 ·obtain⟨jx,e1⟩:=U.sF b ps e
  have nb:b≠a:=λz=>by rw[z,ha] at e1;cases e1
  have nT:b≠T:=λz=>by rw[z,hT] at e1;cases e1
  exact⟨jx,by rw[au nT,au nb];exact e1⟩
 ·by_cases zT:b=T
  ·subst zT
   rw[ay] at e;cases e;exact F8 Lf.tb
  ·rw[au zT] at e
   by_cases za:b=a
   ·subst za
    rw[ay] at e;cases e;exact LI Lf.lW
   ·rw[au za] at e
    have free:∀c,c∈rP ((ic (qa P w) P w K mg base N bW scope f eZ A outer s₀ H₀ E).env::outer)->H c=none:=λc hc=>I.yV.Ku c hc
    refine (I.b_ b u e).pU (λc v hc q=>?_) (λc hc=>?_) (λc xs hc=>?_)
    ·have hcn:∃uu,H c=some uu/\c≠a:=by
      rcases hc with z|z
      ·exact⟨u,by rw[z];exact e,by rw[z];exact za⟩
      ·exact⟨_,z,λq=>by rw[q,ha] at z;cases z⟩
     obtain⟨uu,h1,h2⟩:=hcn;refine Lf.keep c v q h2 λz=>?_
     rw[free c z] at h1;cases h1
    ·have nb:c≠a:=λz=>by rw[z,ha] at hc;cases hc
     have nT:c≠T:=λz=>by rw[z,hT] at hc;cases hc
     rw[au nT,au nb];exact hc
    ·have nb:c≠a:=λz=>by rw[z,ha] at hc;cases hc
     have nT:c≠T:=λz=>by rw[z,hT] at hc;cases hc
     rw[au nT,au nb];exact hc
theorem LJ (he:PE (ic (qa P w) P w K mg base N bW scope f eZ A outer s₀ H₀ E) ex te):
  PS (ic (qa P w) P w K mg base N bW scope f eZ A outer s₀ H₀ E) (.Raise (some ex) none pos) (Z6 K E te):=by
 intro ah s σ H D I h;rw[arm_exec_Raise];refine zaa (zcI (IG (I.ok.hd rfl) ?_))
 refine zaa (zaH (he ah s σ H _ I h) (λv s1 ⟨y,H1,I1,r,a,C,g,bm,od,ey,ha,Mk,q⟩=>zaa (zcI (zaf ?_))) λ_ _ z=>z)
 subst ey;cases (show v=Value.ref a from r)
 obtain⟨nm,qn,N',bs,sn,sub,ab,s_,dd,k0,k1,k2,k3,k5,lk⟩:=Mk.lW;obtain⟨B,eb⟩:=Mk.nb;obtain⟨t,ea⟩:=Lx I1 ha;have hb:bm.contains (.type "BaseException")=true:=by
  rw[eb,zbx];have:rT.contains (.type "BaseException")=true:=by decide +kernel
  rw[this,zcy]
 refine⟨a,t,od,nm,qn,C,N',bs,bm,true,sn,sub,ab,s_,dd,k0,k1,k2,k3,k5,"ValueError.__new__",rfl,hb,I1.jH _ _ lk,ea,?_⟩
 refine A4 (base:=base) (env:=(ic (qa P w) P w K mg base N bW scope f eZ A outer s₀ H₀ E).env) (outer:=outer) I1.ok.frames I1.yV.j9 rfl (show s1.heap.get? a=some (iB C od t .none) from ea) λh' T Lf=>?_
 have Ta:T≠a:=zbQ (zak (zam ea) Lf.new)
 obtain⟨un,b_⟩:=RH I1 ⟨_,ha⟩ Ta Lf
 exact⟨a,T,C,od,_,rfl,I1.os,I1.g5,un,b_,by rw[au Ta.symm];exact ay,ay,Ta,q T (I1.b_.fresh Lf.new) Ta⟩
theorem Ll.okX {st:Stmt}(F:Ll K x bW st f fd)(S:aq N ps (aj st))(len:∀vs H Q E,sp vs H Q E->vs.length=ps.length)
  (sU:∀(eZ:Value) (A:Around) (outer:List Env) (s:Shared) (H:Hp) (vs:List V) (Q:VK) (E:XK),gH k (A.deeper (envOfC bW (aj st) s.heap.objs.size f eZ))->sp vs H Q E ->
   ∃t,wC (ic (qa P w) P w K mg base N bW (aj st) f eZ A outer s H E) (cS st) t/\t {nx:=λ_ H'=>Q .br H',rt:=Q} (dg N vs) H):aN P w K mg base (qa P w) (k+1) f fd ps sp:=by
 obtain⟨oc,od,kV,nK,pm,an,eZ,ct,DH,rfl,lk,AI⟩:=F.ex;exact K3 lk AI S len λA outer s H vs Q E hr Kd=>sU eZ A outer s H vs Q E hr Kd
end
theorem aL.A5 (I:aL X ah σ H s)(ha:H a=some (oN a C od T))(hT:H T=some (TB T))(Ta:T≠a)(RI:T'≠a)(k1:∀b o,b≠T->s.heap.get? b=some o->h1.get? b=some o)(tb1:tD h1 T)(z1:h1.objs.size=s.heap.objs.size)
  (Lf:LG (rP X.c_) a C t od h1 h' T'):aL X ah σ (bF (bF H a (oN a C od T')) T' (TB T')) {s with heap:=h' }:=by
 have Z7:H T'=none:=I.b_.fresh (by rw[<-z1];exact Lf.new)
 have free:∀c,c∈rP X.c_->H c=none:=λc hc=>I.yV.Ku c hc
 have TS:T∉rP X.c_:=λz=>by rw[free T z] at hT;cases hT
 have aS:a∉rP X.c_:=λz=>by rw[free a z] at ha;cases ha
 have bT':∀b o,s.heap.get? b=some o->b≠T':=λb o e=>zar (zak (zam e) (by rw[<-z1];exact Lf.new))
 have ne:∀{b},H b=none->b≠a/\b≠T:=λ{b} n=>⟨λz=>(by rw[z,ha] at n;cases n),λz=>(by rw[z,hT] at n;cases n)⟩
 have tb':tD h' T:=by
  obtain⟨oT,ts,e1,e2,e3⟩:=tb1;exact⟨oT,ts,Lf.keep T oT e1 Ta TS,e2,e3⟩
 have ex:∀{b u},H b=some u->(∀ φ,u ≠ .ext φ)->bF (bF H a (oN a C od T')) T' (TB T') b=some u:=λ{b u} e n=>by
  have nb:b≠a:=λz=>by rw[z,ha] at e;exact n _ (zav e).symm
  have nt:b≠T':=λz=>by rw[z,Z7] at e;cases e
  rw[au nt,au nb];exact e
 refine I.AH (s':={s with heap:=h' }) (ch:=[]) rfl ⟨λb o e n1 n2 n3=>?_,λb o e n1 n2 n3=>?_,λb o e n1 n2=>?_,λb o e n2=>?_,λb xs e=>ex e (λφ z=>by cases z),λb o u e=>ex e (λφ z=>by cases z),λb ps e=>⟨#[],by rw[ex e (λφ z=>by cases z)];simp⟩⟩ (λb u e=>?_) I.g5 (λb z=>absurd z (by simp))
 ·exact Lf.keep b o (k1 b o (ne n1).2 e) (ne n1).1 n2
 ·exact Lf.slot b o (k1 b o (ne n1).2 e) (ne n1).1
 ·rw[au (bT' b o e),au (ne n1).1]
  exact n1
 ·by_cases za:b=a
  ·rw[za];exact⟨_,Lf.lW⟩
  ·by_cases zT:b=T
   ·rw[zT]
    obtain⟨oT,ts,e1,_⟩:=tb';exact⟨oT,e1⟩
   ·obtain⟨sl,e2⟩:=Lf.slot b o (k1 b o zT e) za
    exact⟨_,e2⟩
 ·by_cases zT':b=T'
  ·subst zT'
   rw[ay] at e;cases e;exact F8 Lf.tb
  ·rw[au zT'] at e
   by_cases za:b=a
   ·subst za
    rw[ay] at e;cases e;exact LI Lf.lW
   ·rw[au za] at e
    by_cases zT:b=T
    ·subst zT
     rw[hT] at e;cases e;exact F8 tb'
    ·refine (I.b_ b u e).pU (λc v hc q=>?_) (λc hc=>ex hc (λφ z=>by cases z)) (λc xs hc=>ex hc (λφ z=>by cases z))
     have hcn:∃uu,H c=some uu/\c≠a/\c≠T:=by
      rcases hc with z|z
      ·exact⟨u,by rw[z];exact e,by rw[z];exact za,by rw[z];exact zT⟩
      ·exact⟨_,z,λq=>(by rw[q,ha] at z;cases z),λq=>(by rw[q,hT] at z;cases z)⟩
     obtain⟨uu,g1,g2,g3⟩:=hcn;exact Lf.keep c v (k1 c v g3 q) g2 λz=>by rw[free c z] at g1;cases g1
theorem rV (I:aL X ah σ H s)(hN:X.N.Nodup)(hi:X.N[l]? = some n)(hx:X.env.scope.names.lookup n=some .local)
  (h:∀s',aL X ah (σ.set l none) H s'->Q () s'):wpAny M A (do bindName X.env n .none;unbindBehindTheSuite X.env n pos) Q E s:=by
 have Ky:(X.env.scope.kind == .class || (X.env.scope.kind == .module && X.env.locals != X.env.globals))=false:=by rw[I.ok.kind];rfl
 refine zaa (wpAny_bindName (ou I hN hi (.inl hx) (v:=.br) rfl (λs1 I1=>?_) (.inr hx)))
 unfold unbindBehindTheSuite;refine wpAny_onRaise ?_
 unfold unbindName;refine zaa (wpAny_point (zaa ?_))
 unfold deleteName;have FQ:X.env.kindOf n=some .local:=hx
 simp only[FQ,Ky];rw[if_neg (by decide)]
 obtain⟨m,hn,hl⟩:=id I1.Ay;have agJ:l<σ.length:=by rw[I.len];exact (zab.mp hi).1
 have isS:(m n).isSome=true:=by
  obtain⟨u,r,q⟩:=hl l n .br hi (by rw[zaz agJ]) (.inl hx)
  rcases q with⟨_,q⟩|⟨kk,_⟩
  ·rw[q];rfl
  ·rcases kk with kk|kk<;>(rw[FQ] at kk;cases kk)
 refine zaa (wpAny_nsDel_keeps hn λh2 v Ka hs=>?_)
 rw[isS];simp only[Bool.not_true,zcf,if_false];refine zaf (wpAny_point (h _ ?_))
 obtain⟨oL,_,_,hoL,_⟩:=id hn;have Kv:=I1.Kv;have oq:mS X.prog X.w H h2:=λb ob e=>by
  refine (I1.b_ b ob e).pU (λc w' hc q=>(hs.2 c ?_).trans q) (λ_ q=>q) λ_ _ q=>q
  intro z;rcases hc with hc|hc
  ·rw[<-hc,z,I1.free] at e;cases e
  ·rw[z,I1.free] at hc;cases hc
 refine⟨I1.ok,I1.os,I1.g5,⟨λb o e n hb hx=>?_,λb o e n hb hx=>?_,I1.base.free,λb o e hx=>?_,I1.base.sE,I1.base.q_,I1.base.sF⟩,⟨_,Ka,λj y v' e1 e2 e3=>?_⟩,λy c e=>?_,I1.free,I1.jG,λp hp=>?_,oq,by simpa using I.len⟩
 ·exact (hs.2 b (zar (zak (zam e) I.ok.above))).trans (I1.base.keep b o e n hb hx)
 ·obtain⟨sl,e1⟩:=I1.base.slot b o e n hb hx
  exact⟨sl,(hs.2 b (zar (zak (zam e) I.ok.above))).trans e1⟩
 ·obtain⟨o',e1⟩:=I1.base.there b o e hx
  exact⟨o',(hs.2 b (zar (zak (zam e) I.ok.above))).trans e1⟩
 ·by_cases hj:j=l
  ·subst hj
   rw[zaz agJ] at e2;cases e2
  ·rw[zax (zbc hj)] at e2
   obtain⟨u',r',q⟩:=hl j y v' e1 (by rw[zax (zbc hj)];exact e2) e3
   refine⟨u',r',?_⟩
   rcases q with⟨k,e⟩|⟨k,c,e,z⟩
   ·refine .inl ⟨k,?_⟩
    have:y≠n:=λe=>hj (sI hN e1 (e ▸ hi))
    simp[this,e]
   ·exact .inr ⟨k,c,e,z.sameBut hs (Kv y c e)⟩
 ·obtain⟨w',z⟩:=I1.cell y c e
  exact⟨w',z.sameBut hs (Kv y c e)⟩
 ·obtain⟨e,n,ne,nf,d⟩:=I1.AF p hp
  exact⟨(hs.2 p.1 ne).trans e,n,ne,nf,d⟩
noncomputable def Cx.kE (X:Cx)(a:Addr):Cx:={X with A:=X.A.mark (some (.ref a)),fX:=false}
theorem aL.kE (I:aL X ah σ H s)(a:Addr):aL (X.kE a) ah σ H s:=
 ⟨⟨I.ok.sH,I.ok.kind,I.ok.sG,I.ok.U6,I.ok.above,I.ok.inj,I.ok.has,I.ok.YX,λh=>absurd (show false=true from h) zal,I.ok.frames,I.ok.stk,I.ok.exf,I.ok.bs,I.ok.Qj,I.ok.jf,I.ok.Dp,I.ok.j9,I.ok.Ku⟩,I.os,I.g5,I.base,I.Ay,I.cell,I.free,I.jG,I.AF,I.b_,I.len⟩
theorem aL.oO {a:Addr}(I:aL (X.kE a) ah σ H s)(hd:X.fX=true->X.A.handled=none):aL X ah σ H s:=
 ⟨⟨I.ok.sH,I.ok.kind,I.ok.sG,I.ok.U6,I.ok.above,I.ok.inj,I.ok.has,I.ok.YX,hd,I.ok.frames,I.ok.stk,I.ok.exf,I.ok.bs,I.ok.Qj,I.ok.jf,I.ok.Dp,I.ok.j9,I.ok.Ku⟩,I.os,I.g5,I.base,I.Ay,I.cell,I.free,I.jG,I.AF,I.b_,I.len⟩
section
variable {X:Cx}{k:Nat}{g B:Addr}{fd:FuncData}{ps:List Str}{sp:Sp}{e:Expr}{es:List Expr}{t:TA}{x y n fn cB:Str}{i j l:Nat}{xp p cp ap np yp np2 bp hp pos:Pos}
 {Vn q':Str} {N':Addr} {Vo:List Value} {qQ:Bool} {Vp:List Str} {A6:List Value} {Vq:Bool} {A7:Option Bool} {Dc:Option Addr} {j0 j1 j2 j3 j5:Option Value} {l7:String}
end
theorem Z8 {h:Heap}{a C t d:Addr}{tb:Value}{o:Obj}(e:h.get? a=some (iB C (some d) t tb))(hd:h.get? d=some o):PySem.W.InstAt h a (iB C (some d) t tb) C (some o):=⟨e,rfl,rfl,hd⟩
theorem Z9 {od:Option Addr}(I:aL X ah σ H s)(h:H a=some (oN a C od T)):∃t,s.heap.get? a=some (iB C od t (.ref T)):=(I.b_ a _ h).1
theorem LL {b:Bool}{Q:Value->Shared->Prop}(I:aL X ah σ H s)(M:oK X.K C f bm)(ha:H a=some (oN a C (some d) T))(hd:H d=some (ED d fs))(hn:PySem.W.findIn X.K (.ref C) g=some none)(l:fs.lookup g=some v)
  (h:∀u s',aL X ah σ H s'->bI v u->Q u s'):wpAny (model X.prog X.w) A (getAttr (.ref a) g b) Q E s:=by
 obtain⟨t,e⟩:=Z9 I ha;obtain⟨mA,ns,r,_⟩:=Vl I hd;obtain⟨oD,Va,hl⟩:=pX ns;obtain⟨u,hu,ru⟩:=iG.rQ (v:=v) (o:=mA g) (by rw[<-l];exact r g)
 obtain⟨cd,hc,_,rC⟩:=M.cls;have hf:PySem.W.findObj X.K C (some oD) g=some (.value u):=by
  unfold PySem.W.findObj;rw[hc,zbv,hn,zbv];simp[PySem.W.ownOf,rC,hl,hu]
 exact DU I.jH (Z8 e Va) M hf (wF ru) (h u _ (I.nH _) ru)
noncomputable def Z_ (K:PySem.W.Frag)(ta:TE)(g:Str):TE:=λσ H Q=>ta σ H λx H1=>∃a C f bm d T fs v,x = .ref a/\H1 a=some (oN a C (some d) T)/\H1 d=some (ED d fs)/\oK K C f bm/\PySem.W.findIn K (.ref C) g=some none/\fs.lookup g=some v/\Q v H1
theorem LM (he:PE X e ta)(hb:autoParam (attributeBase e g X.env (eval e X.env)=eval e X.env) zp_0):PE X (.Attribute e g pos) (Z_ X.K ta g):=by
 intro ah s σ H Q I h;refine FN hb (cQ (he ah s σ H _ I h) λu s1 cy=>?_)
 obtain⟨x,H1,I1,rx,a,C,f,bm,d,T,fs,v,ex,ea,ed,M,n,l,q⟩:=cy;subst ex;obtain rfl:u=Value.ref a:=rx
 exact LL I1 M ea ed n l λu' s2 I2 ru=>⟨v,H1,I2,ru,q⟩
end L2
namespace L2
open PySem PySem.Spec PyProof.Rows
theorem at0 {α:Type}{a:α}{xs:List α}:iz (a::xs) 0=some a:=gy (j:=0) rfl
theorem at1 {α:Type}{a b:α}{xs:List α}:iz (a::b::xs) 1=some b:=gy (j:=1) rfl
theorem at2 {α:Type}{a b c:α}{xs:List α}:iz (a::b::c::xs) 2=some c:=gy (j:=2) rfl
theorem at3 {α:Type}{a b c d:α}{xs:List α}:iz (a::b::c::d::xs) 3=some d:=gy (j:=3) rfl
theorem at4 {α:Type}{a b c d e:α}{xs:List α}:iz (a::b::c::d::e::xs) 4=some e:=gy (j:=4) rfl
theorem at5 {α:Type}{a b c d e f:α}{xs:List α}:iz (a::b::c::d::e::f::xs) 5=some f:=gy (j:=5) rfl
theorem at6 {α:Type}{a b c d e f g:α}{xs:List α}:iz (a::b::c::d::e::f::g::xs) 6=some g:=gy (j:=6) rfl
theorem at7 {α:Type}{a b c d e f g h:α}{xs:List α}:iz (a::b::c::d::e::f::g::h::xs) 7=some h:=gy (j:=7) rfl
theorem kF (ha:H a=none)(hb:H b=some x):bF H a o b=some x:=by rw[au (fu hb ha)];exact hb
noncomputable def agK:V->V->V->Hp->(Hp->Prop)->Prop:=λo i v H Q=>∃p k,o = .ref p/\i = .int k/\match H p with
 |some (.bM xs)=>(match AA xs.length k with|some j=>Q (bF H p (.bM (xs.set j v)))|none=>False)
 |_=>False
theorem agL:Zd X agK:=by
 intro ah s σ H o i v ov iv u Q I ro ri rv h;obtain⟨p,k,rfl,rfl,h⟩:=h;cases e:H p with
 |none=>rw[e] at h;exact h.elim
 |some ob =>
  rw[e] at h;cases ob with
  |bM xs =>
   dsimp only at h
   cases e2:AA xs.length k with
   |none=>rw[e2] at h;exact h.elim
   |some j=>rw[e2] at h;exact Lc ah s σ H _ _ v ov iv u Q I ro ri rv ⟨p,xs,k,j,rfl,rfl,e,e2,h⟩
  |_=>exact h.elim
noncomputable abbrev Ev:=St->Hp->Option V
section
variable {X:Cx}{a b c:Expr}{ea eb ec:Ev}{pos RJ:Pos}
variable {dc:List Expr}
end
theorem LN (hc:X.fX=true):jJ X (.builtin "sum") (λxs H Q=>∃(l:Addr) (ns:List Int),xs=[.ref l]/\jk X.K H l (ns.map V.int)/\Q (.int ns.sum) H):=by
 intro ah s σ H xs us Q I r h;obtain⟨l,ns,rfl,hl,q⟩:=h;obtain⟨u,rfl,ru⟩:=sP r;cases ru;obtain⟨bu,r2,pl,_⟩:=I.list hl;have hi:=DM r2;obtain⟨ys,e⟩:=hi.allInts.items;have e2:numsOf bu=ns:=hi.numsOf
 have Vr:=pl.isList;rw[e] at Vr;refine sum_intListG (I.ok.hd hc) Vr λh' tk t' kp=>⟨.int ns.sum,H,I.gZ kp,⟨t',?_⟩,q⟩
 have e3:numsOf (intItems ys).toList=ns:=by rw[<-e];exact e2
 rw[nums_intItems] at e3;rw[preSum_eq,zbs (by simp),e3]
inductive DV where
 |fl (v:V)
 |tp (l:List DV)
 |ls (l:List DV)
mutual
noncomputable def g8 (K:PySem.W.Frag)(H:Hp):DV->V->Prop
 |.fl w,v=>v=w/\iA w=true
 |.tp l,v=>∃a xs,v = .ref a/\nI K H a xs/\jO K H l xs
 |.ls l,v=>∃a xs,v = .ref a/\jk K H a xs/\jO K H l xs
noncomputable def jO (K:PySem.W.Frag)(H:Hp):List DV->List V->Prop
 |[],xs=>xs=[]
 |d::l,xs=>∃x r,xs=x::r/\g8 K H d x/\jO K H l r
end
mutual
noncomputable def DV.wV:DV->Nat
 |.fl _=>0
 |.tp l=>DV.A8 l+1
 |.ls l=>DV.A8 l+1
noncomputable def DV.A8:List DV->Nat
 |[]=>0
 |d::l=>max (DV.wV d) (DV.A8 l)
end
theorem LO (h:iA w=true):zd w w=true:=by
 cases w with
 |br=>rfl
 |bl b=>simp[zd]
 |int i=>simp[zd]
 |str z=>simp[zd]
 |_=>exact absurd (show false=true from h) zal
theorem dS (n:Nat):(List.range n).all (λ_=>true)=true:=by simp
mutual
theorem II (I:aL X ah σ H s):∀(d:DV) (A:Around) (x y:V) (v u:Value),g8 X.K H d x->g8 X.K H d y->bI x v->bI y u->A.units+d.wV<cLine->SeqAt.EqAt A s v u true
 |.fl w,A,x,y,v,u,hx,hy,rx,ry,_=>by
  unfold g8 at hx hy;obtain⟨rfl,fw⟩:=hx;obtain⟨rfl,_⟩:=hy;have h:=Ld (A:=A) (s:=s) rx ry fw fw
  rw[LO fw] at h;exact h
 |.tp l,A,x,y,v,u,hx,hy,rx,ry,hd=>by
  unfold g8 at hx hy;obtain⟨a,xs,rfl,sx,dx⟩:=hx;obtain⟨b,ys,rfl,sy,dy⟩:=hy;cases rx;cases ry;obtain⟨bu,r1,p1,_⟩:=I.fQ sx;obtain⟨ie,r2,p2,_⟩:=I.fQ sy;unfold DV.wV at hd;obtain⟨hl,he⟩:=gn I l A.in1 xs ys bu ie dx dy r1 r2 (by show A.units+1+_<_;omega)
  by_cases hab:a=b
  ·subst hab;exact zdI _
  ·refine zew hab ?_
   have h:=SeqAt.RcAt.tuples (A:=A) (e:=λ_=>true) p1 p2 (by omega) λj h1 h2=>he j _ _ (by simpa using zad (by simpa using h1)) (by simpa using zad (by simpa using h2))
   rw[dS,show (bu.toArray.size == ie.toArray.size)=true by simpa using hl] at h
   exact h
 |.ls l,A,x,y,v,u,hx,hy,rx,ry,hd=>by
  unfold g8 at hx hy;obtain⟨a,xs,rfl,sx,dx⟩:=hx;obtain⟨b,ys,rfl,sy,dy⟩:=hy;cases rx;cases ry;obtain⟨bu,r1,p1,_⟩:=I.list sx;obtain⟨ie,r2,p2,_⟩:=I.list sy;unfold DV.wV at hd;obtain⟨hl,he⟩:=gn I l A.in1 xs ys bu ie dx dy r1 r2 (by show A.units+1+_<_;omega)
  by_cases hab:a=b
  ·subst hab;exact zdI _
  ·refine zew hab ?_
   have h:=SeqAt.RcAt.lists (A:=A) (e:=λ_=>true) p1.isList p2.isList (by simpa using hl) (by omega) λj h1 h2=>he j _ _ (by simpa using zad (by simpa using h1)) (by simpa using zad (by simpa using h2))
   rw[dS] at h;exact h
theorem gn (I:aL X ah σ H s):∀(l:List DV) (A:Around) (xs ys:List V) (us ws:List Value),jO X.K H l xs->jO X.K H l ys->bL xs us->bL ys ws->A.units+DV.A8 l<cLine ->
  us.length=ws.length/\∀(j:Nat) (u w:Value),us[j]? = some u->ws[j]? = some w->SeqAt.EqAt A s u w true
 |[],A,xs,ys,us,ws,hx,hy,rx,ry,_=>by
  unfold jO at hx hy;subst hx hy;cases rx;cases ry;exact⟨rfl,λj u w h=>by simp at h⟩
 |d::l,A,xs,ys,us,ws,hx,hy,rx,ry,hd=>by
  unfold jO at hx hy;obtain⟨x,r,rfl,dx,dr⟩:=hx;obtain⟨y,r',rfl,dy,dr'⟩:=hy;cases rx with
  |cons r1 t1 =>
   cases ry with
   |cons r2 t2 =>
    unfold DV.A8 at hd;obtain⟨hl,he⟩:=gn I l A r r' _ _ dr dr' t1 t2 (by omega)
    refine⟨by simp[hl],λj u w h1 h2=>?_⟩
    cases j with
    |zero =>
     simp only[zaT,zbC] at h1 h2;subst h1 h2;exact II I d A x y _ _ dx dy r1 r2 (by omega)
    |succ j =>
     simp only[zaD] at h1 h2;exact he j u w h1 h2
end
noncomputable def agN (K:PySem.W.Frag)(neg:Bool):R2:=λx y H Q=>∃d:DV,DV.wV d<=50/\(∀w,d ≠ .fl w)/\g8 K H d x/\g8 K H d y/\Q (.bl (!neg)) H
theorem aaa (hu:X.A.units+100<cLine):ki X (compareOp .Eq) (agN X.K false):=by
 intro ah s σ H x y v u Q I rx ry h;obtain⟨d,hd,hn,dx,dy,q⟩:=h;have eO:EP X ah σ Q (.bool true) s:=⟨.bl true,H,I,rfl,q⟩
 cases d with
 |fl w=>exact absurd rfl (hn w)
 |tp l =>
  unfold g8 at dx dy;obtain⟨a,xs,rfl,sx,dx⟩:=dx;obtain⟨b,ys,rfl,sy,dy⟩:=dy;cases rx;cases ry;obtain⟨bu,r1,p1,_⟩:=I.fQ sx;obtain⟨ie,r2,p2,_⟩:=I.fQ sy;unfold DV.wV at hd;obtain⟨hl,he⟩:=gn I l X.A.in1 xs ys bu ie dx dy r1 r2 (by show X.A.units+1+_<_;omega)
  refine SeqAt.eq_tupleAt (e:=λ_=>true) p1 p2 (by omega) (λj h1 h2=>he j _ _ (by simpa using zad (by simpa using h1)) (by simpa using zad (by simpa using h2))) ?_
  rw[dS,show (bu.toArray.size == ie.toArray.size)=true by simpa using hl]
  exact eO
 |ls l =>
  unfold g8 at dx dy;obtain⟨a,xs,rfl,sx,dx⟩:=dx;obtain⟨b,ys,rfl,sy,dy⟩:=dy;cases rx;cases ry;obtain⟨bu,r1,p1,_⟩:=I.list sx;obtain⟨ie,r2,p2,_⟩:=I.list sy;unfold DV.wV at hd;obtain⟨hl,he⟩:=gn I l X.A.in1 xs ys bu ie dx dy r1 r2 (by show X.A.units+1+_<_;omega)
  refine SeqAt.eq_listAt (e:=λ_=>true) p1.isList p2.isList (by simpa using hl) (by omega) (λj h1 h2=>he j _ _ (by simpa using zad (by simpa using h1)) (by simpa using zad (by simpa using h2))) ?_
  rw[dS];exact eO
theorem aab (hu:X.A.units+100<cLine):ki X (compareOp .NotEq) (agN X.K true):=by
 intro ah s σ H x y v u Q I rx ry h;obtain⟨d,hd,hn,dx,dy,q⟩:=h;have eO:EP X ah σ Q (.bool false) s:=⟨.bl false,H,I,rfl,q⟩
 cases d with
 |fl w=>exact absurd rfl (hn w)
 |tp l =>
  unfold g8 at dx dy;obtain⟨a,xs,rfl,sx,dx⟩:=dx;obtain⟨b,ys,rfl,sy,dy⟩:=dy;cases rx;cases ry;obtain⟨bu,r1,p1,_⟩:=I.fQ sx;obtain⟨ie,r2,p2,_⟩:=I.fQ sy;unfold DV.wV at hd;obtain⟨hl,he⟩:=gn I l X.A.in1 xs ys bu ie dx dy r1 r2 (by show X.A.units+1+_<_;omega)
  have h:=SeqAt.RcNeAt.tuples (e:=λ_=>true) p1 p2 (show X.A.units<cLine by omega) λj h1 h2=>he j _ _ (by simpa using zad (by simpa using h1)) (by simpa using zad (by simpa using h2))
  rw[dS,show (bu.toArray.size == ie.toArray.size)=true by simpa using hl] at h
  exact h X.prog X.w _ _ eO
 |ls l =>
  unfold g8 at dx dy;obtain⟨a,xs,rfl,sx,dx⟩:=dx;obtain⟨b,ys,rfl,sy,dy⟩:=dy;cases rx;cases ry;obtain⟨bu,r1,p1,_⟩:=I.list sx;obtain⟨ie,r2,p2,_⟩:=I.list sy;unfold DV.wV at hd;obtain⟨hl,he⟩:=gn I l X.A.in1 xs ys bu ie dx dy r1 r2 (by show X.A.units+1+_<_;omega)
  have h:=SeqAt.RcNeAt.lists (e:=λ_=>true) p1.isList p2.isList (by simpa using hl) (show X.A.units<cLine by omega) λj h1 h2=>he j _ _ (by simpa using zad (by simpa using h1)) (by simpa using zad (by simpa using h2))
  rw[dS] at h;exact h X.prog X.w _ _ eO
end L2
namespace L2
open PySem PySem.Spec PyProof.Rows
end L2
namespace L2
open PySem PySem.Spec PyProof.Rows
end L2
namespace My
open PySem L2
end My
namespace My
open PySem L2
end My
namespace L2
open PySem
theorem LP (hc:X.fX=true):jJ X (.builtin "any") (λxs H Q=>∃(l:Addr) (bs:List Bool),xs=[.ref l]/\H l=some (.bM (bs.map V.bl))/\Q (.bl (bs.any id)) H):=by
 intro ah s σ H xs us Q I r h;obtain⟨l,bs,rfl,hl,q⟩:=h;obtain⟨u,rfl,ru⟩:=sP r;cases ru;obtain⟨bu,n,rv,e,_⟩:=I.bM hl;have agO:s.heap.IsList l bu.toArray:=⟨_,e,rfl,n,rfl⟩
 refine call_any_walk (zdp agO ?_)
 have Dd:l≠s.heap.objs.size:=zar (zam e)
 have dB:bu.length=bs.length:=by rw[<-rv.length];simp
 refine⟨s.heap.objs.size,_,_,_,_,_,λi=>bs[i]?.getD true,rfl,Walks.list (by exact I.ok.hd hc) s.heap.objs.size l Dd bu.toArray,⟨⟨_,zap _ rfl,rfl,rfl⟩,⟨_,zac _ e,rfl,n,rfl⟩⟩,?_,?_⟩
 ·intro i v s' Q' E' hv hq
  have hv:bu[i]? = some v:=by simpa using hv
  have hi:i<bs.length:=by rw[<-dB];exact (zab.mp hv).1
  obtain⟨u,hu,ru⟩:=rv.get (i:=i) (x:=V.bl bs[i]) (by simp[hi])
  rw[hv] at hu;have e1:v=u:=zav hu
  subst e1;cases (show v=Value.bool bs[i] from ru)
  refine zaX ?_
  have e2:bs[i]?.getD true=bs[i]:=by simp[hi]
  have hq:Q' (bs[i]?.getD true) s':=hq
  rw[e2] at hq;exact hq
 ·intro h' tk hk
  refine⟨.bl (bs.any id),H,I.gZ λb o e'=>hk b o (by simp;exact zar (zam e')) (zac _ e'),?_,q⟩
  show Value.bool _=Value.bool _
  congr 1
  rw[zao,dB];rw[zbg,zcJ,zcJ];constructor
  ·rintro⟨i,hi,hb⟩
   have hi:=zdS.mp hi;rw[zad hi] at hb;exact⟨_,zcn hi,hb⟩
  ·rintro⟨b,hb,hbt⟩
   obtain⟨i,hi,e⟩:=List.mem_iff_getElem.mp hb;refine⟨i,zdS.mpr hi,?_⟩
   rw[zad hi,zbU,e];exact hbt
section
variable {α:Type}{H H':Hp}{o:α -> HO}{as:List Addr}{xs:List α}
end
end L2
namespace L2
open PySem PySem.Spec PyProof.Rows
theorem A9 (hd:(d == sysModules)=false)(ho:s.heap.get? d=some o)(hc:o.ExactDict)(A_:o.data = .dict es ep)
  (hQ:Q (.ref s.heap.objs.size) { s with heap:=s.heap.push { cls:=.type "dict_keyiterator",data:=.fields #[.ref d,.int 0 0,.int es.size 0,.int ep 0]} }):wpAny (model prog w) A (pyIter (.ref d)) Q E s:=by
 have hT:s.TypeIs (.ref d) "dict" := ⟨o,ho,hc.1⟩
 refine wpAny_pyIter_slot hT F.slot_dict_iter (zbS F.slot_dict_iter hT F.entry_dict_iter ?_ (F.args_dict_iter_1 _))
 unfold Builtin.«dict.__iter__» Builtin.Dict.dictSlotNone
 refine zaa (zaa (wpAny_notOrdered_dict hT (zaf (?_:wpAny _ _ (Builtin.Dict.showsAll d >>= _) _ _ s))))
 unfold Builtin.Dict.showsAll;rw[if_neg (by rw[hd];exact zal)]
 refine zaa (zaf (zaa (zds ho A_ (zaa (zdK ho A_ (zaa (zaS (zaf ⟨_,rfl,"dict_keyiterator",_,⟨_,zap _ rfl,rfl⟩,zbn.lookup,?_⟩)))))))) 
 simpa[rawInt] using hQ
theorem LQ (De:s.heap.IsKeyIter it d i es.size ep)(vW:s.heap.get? d=some o)(A_:o.data = .dict es ep)(jg:i<es.size)
  (hQ:∀h',h'.IsKeyIter it d (i+1) es.size ep->Heap.SameBut it s.heap h'->Q (some es[i].key) {s with heap:=h' }):wpAny (model prog w) A (pyNext (.ref it)) Q E s:=by
 obtain⟨oi,hoi,hci,hdi⟩:=id De;unfold pyNext;refine zaa (wpAny_attempt (zbE (name:=Str.ofString "__next__") De.typeIs zbn
  (zbS zbn De.typeIs zcU (zaa (zaf (zaa (zaa ?_)))) (zcR _))))
 first|refine zaa (zbD De.typeIs (zaf ?_))|refine zaa (dM De.typeIs (zaf ?_))
 refine zaa (wpAny_fieldsOf hoi hdi ?_)
 simp only[(by decide:Builtin.Dict_items.ownsTuple "dict_keyiterator"=false),zcf,if_false]
 show wpAny _ _ (if (Value.ref d == Value.none)=true then _ else _) _ _ s
 rw[if_neg (show ¬ ((Value.ref d == Value.none)=true) from zal)];refine zaa (zaf (zaa (zds vW A_ ?_)))
 rw[if_neg (by simp)]
 refine zaa (zaf (zaa (zdK vW A_ ?_)))
 rw[if_neg (by simp)]
 refine zaf ?_
 simp only[show ¬ ((i:Int)<0) from by omega,if_false,zbo,zdv jg]
 refine zaa ?_
 first|refine zaa (zbD De.typeIs (zaf ?_))|refine zaa (dM De.typeIs (zaf ?_))
 refine zaa (wpAny_isOneOf_keyiter De.typeIs (?_:wpAny _ _ (setField (.ref it) 1 (rawInt ((i:Int)+1)) >>= _) _ _ s))
 refine zaa (zbG hoi hdi (by simp) ?_)
 have agP:(s.heap.update it (Obj.mapFields (·.setIfInBounds 1 (rawInt ((i:Int)+1))))).IsKeyIter it d (i+1) es.size ep:=
  ⟨_,zaQ _ hoi (zci (zbk hdi _)),(Obj.cls_mapFields ..).trans hci,by rw[zbk hdi];simp[rawInt]⟩
 refine zaa (zbu (zaa (wpAny_isOneOf_keyiter (s:={s with heap:=s.heap.update it (Obj.mapFields (·.setIfInBounds 1 (rawInt ((i:Int)+1))))}) agP.typeIs (?_:wpAny _ _ (pure es[i].key) _ _ _))))
 exact zaf (zaf ⟨_,rfl,zaf (hQ _ agP (zbW ..))⟩)
theorem LR (hh:A.handled=none)(De:s.heap.IsKeyIter it d i es.size ep)(vW:s.heap.get? d=some o)(A_:o.data = .dict es ep)(hge:es.size<=i)
  (hQ:∀h',Heap.ExtBut it s.heap h'->Q none {s with heap:=h' }):wpAny (model prog w) A (pyNext (.ref it)) Q E s:=by
 obtain⟨oi,hoi,hci,hdi⟩:=id De;unfold pyNext;refine zaa (wpAny_attempt (zbE (name:=Str.ofString "__next__") De.typeIs zbn
  (zbS zbn De.typeIs zcU (zaa (zaf (zaa (zaa ?_)))) (zcR _))))
 first|refine zaa (zbD De.typeIs (zaf ?_))|refine zaa (dM De.typeIs (zaf ?_))
 refine zaa (wpAny_fieldsOf hoi hdi ?_)
 simp only[(by decide:Builtin.Dict_items.ownsTuple "dict_keyiterator"=false),zcf,if_false]
 show wpAny _ _ (if (Value.ref d == Value.none)=true then _ else _) _ _ s
 rw[if_neg (show ¬ ((Value.ref d == Value.none)=true) from zal)];refine zaa (zaf (zaa (zds vW A_ ?_)))
 rw[if_neg (by simp)]
 refine zaa (zaf (zaa (zdK vW A_ ?_)))
 rw[if_neg (by simp)]
 refine zaf ?_
 simp only[show ¬ ((i:Int)<0) from by omega,if_false,zbo,Array.getElem?_eq_none hge]
 refine zaa ?_
 first|refine zaa (zbD De.typeIs (zaf ?_))|refine zaa (dM De.typeIs (zaf ?_))
 show wpAny _ _ (setField (.ref it) 0 .none >>= _) _ _ s
 refine zaa (zbG hoi hdi (by simp) (?_:wpAny _ _ (newExc (.type "StopIteration") [] >>= _) _ _ _))
 refine zaa ?_
 simp only[newExc,newTuple];refine zaa (zaS ?_ (by size_fits))
 refine zaa (m:=firstArgMember _ _) (wpAny_of_eq (a:=Value.none) (by first|rfl | (simp only[firstArgMember];rfl)) ?_)
 refine zaS ?_ (by size_fits)
 simp only[raiseNew];refine zaa (wpAny_handled ?_)
 rw[show A.in1.handled=none from hh];refine zaa (zaf (wpAny_throw ?_))
 refine zaa (wpAny_isInstance (T:= "StopIteration") (b:=true) ⟨_,zap _ rfl,rfl⟩ isSubtype_stop ?_)
 exact zaf (hQ _ (((zbW ..).extBut.push _).push _))
noncomputable def Itd (a:Addr)(o:Obj)(u:HO)(ks:List V):It:=⟨λi H=>H a=some (.pP o u)/\i<ks.length,λi H x H'=>H'=H/\ks[i]? = some x,λi H=>H a=some (.pP o u)/\ks.length<=i⟩
theorem wW {K:W.Frag}(a it:Addr)(hc:o.ExactDict)(hd:o.data = .dict es ep)(hn:es.size=ks.length)(hk:∀i (h:i<es.size) x,ks[i]? = some x->bI x es[i].key):
  Ia P w K tg (Itd a o u ks) [it] it (λi h=>h.IsKeyIter it a i es.size ep) where
 mem:=by simp
 lW:=λi h st b hb=>by
  have e:b=it:=by simpa using hb
  subst e;obtain⟨o,e,c,d⟩:=st;exact⟨o,e,λv z=>by rw[d] at z;cases z⟩
 keep:=λi h h' st k=>st.at λo e=>k it (by simp) o e
 item:=by
  intro X hP hw hK hcm i ah s σ H E I hf st hg;subst hP hw hK;obtain⟨ha,hi⟩:=hg;obtain⟨ho,_⟩:=(show cD X.prog X.w H s.heap a (.pP o u) from I.b_ a _ ha)
  obtain⟨f0,f1,f2,f3,f4,f5⟩:=hf it (by simp)
  have hi2:i<es.size:=by omega
  refine LQ st ho hd hi2 λh' AL sb=>?_
  have I1:aL X ah σ H {s with heap:=h' }:=I.j_ (t':=s.toks) (λb o hb e=>(sb.2 b hb).trans e) f0 f1 f3 f4 f5
  obtain⟨oi,e,c,d⟩:=id AL;exact⟨_,rfl,FH (s:={s with heap:=h' }) e c d (by decide) ⟨ks[i],H,I1,hk i hi2 _ (zad hi),⟨rfl,zad hi⟩,AL,λb hb=>(hf b hb).1⟩⟩
 done:=by
  intro X hP hw hK hcm i ah s σ H E I hf st hg;subst hP hw hK;obtain⟨ha,hi⟩:=hg;obtain⟨ho,_⟩:=(show cD X.prog X.w H s.heap a (.pP o u) from I.b_ a _ ha)
  obtain⟨f0,f1,f2,f3,f4,f5⟩:=hf it (by simp)
  exact LR (I.ok.hd hcm) st ho hd (by omega) λh' eb=>⟨rfl,I.j_ (t':=s.toks) (λb o hb e=>eb b o hb e) f0 f1 f3 f4 f5⟩
 self:=λ_ _ _ _ _ st h=>wpAny_pyIter_keyiter st h
theorem RL (h:lT k v=true):bI (kV k) v:=by
 rcases cZ h with⟨i,t,rfl,rfl⟩|⟨x,t,rfl,rfl⟩
 ·exact⟨t,rfl⟩
 ·exact⟨t,rfl⟩
theorem Paired.agQ {α β γ:Type}{F:α -> β -> Prop}{G:α -> γ -> Prop}{f:β -> γ}(h:∀a b,F a b->G a (f b)):∀{l:List α} {m:List β},Paired F l m->Paired G l (m.map f)
 |_,_,.nil=>.nil
 |_,_,.cons r t=>.cons (h _ _ r) (Paired.agQ h t)
noncomputable def LS (H:Hp)(u:HO)(ks:List V):Prop:=match u with
 |.dK aO=>ks=aO.map λp=>kV p.1
 |.dT aO=>Paired (λ(p:List dI×V) (x:V)=>∃b,x = .ref b/\H b=some (.gE (p.1.map kV))) aO ks
 |_=>False
noncomputable def F9:HO->Prop|.dK _=>True|.dT _=>True|_=>False
theorem F_ {P:Program}{w:World}{H:Hp}(hu:F9 u)(x:cD P w H h a u):(a == sysModules)=false/\∃o ks es ep,h.get? a=some o/\LS H u ks/\o.ExactDict/\o.data = .dict es ep/\es.size=ks.length/\∀i (h:i<es.size) x,ks[i]? = some x->bI x es[i].key:=by
 cases u with
 |dK aO =>
  obtain⟨_,hs,vs,kv,o,es,ep,ho,hc,hd,hk,hp,hn⟩:=x;have hl:=hp.length;have kl:=kv.length;have kk:=kv.pT;refine⟨hs,o,_,es,ep,ho,rfl,hc,hd,by rw[zae,kl,<-hl];simp,λi hi y hy=>?_⟩
  rw[zaq] at hy;have hiv:i<vs.length:=by rw[<-hl];simpa using hi
  have e1:(aO.map (·.1))[i]? = (vs.map (·.1))[i]?:= by rw[kk]
  rw[zaq,zaq,zad hiv] at e1;rw[zad (by omega)] at hy e1
  simp only[zct,zbC] at hy e1
  have:=(hp.get? (i:=i) (e:=es[i]) (k:=vs[i].1) (v:=vs[i].2) (by simp[hi]) (by rw[zad hiv])).1
  rw[<-hy,e1];exact RL this
 |dT aO =>
  obtain⟨_,hs,xs,pr,o,es,ep,ho,hc,hd,he,hn⟩:=x;have hl:es.size=xs.length:=by have:=congrArg List.length he;simpa using this
  refine⟨hs,o,xs.map λq=>.ref q.2.1,es,ep,ho,?_,hc,hd,by rw[zae,hl],λi hi y hy=>?_⟩
  ·show Paired _ aO (xs.map λq=>V.ref q.2.1)
   exact Paired.agQ (λp q h=>⟨_,rfl,h.2.1⟩) pr
  ·rw[zaq,zad (by omega)] at hy
   simp only[zct,zbC] at hy;have e1:es[i]=entryOfKey (tupleKind (bX P w)) (xs[i]'(by omega)):=by
    have:=entry_at he i
    rw[zdv hi,zad (by omega)] at this
    simpa using this
   rw[<-hy,e1];rfl
 |_=>exact hu.elim
noncomputable def ama (tl:TE):TI:=λσ H R=>tl σ H λx H1=>∃a u,x = .ref a/\F9 u/\((H1 a=some u/\∀o ks,LS H1 u ks->R (Itd a o u ks) (bF H1 a (.pP o u)))\/∃o,H1 a=some (.pP o u)/\∀ks,LS H1 u ks->R (Itd a o u ks) H1)
theorem RM {l:Expr}{tl:TE}(hl:PE X l tl):PI X tg l (ama tl):=by
 intro ah s σ H R I h;refine cQ (hl ah s σ H _ I h) λv s1 cy=>?_
 obtain⟨x,H1,I1,r1,q1⟩:=cy;obtain⟨a,u,e,hu,q⟩:=q1;subst e;cases r1;rcases q with⟨ha,q⟩|⟨o,ha,q⟩
 ·obtain⟨hs,o,ks,es,ep,ho,hk,hc,hd,hn,hr⟩:=F_ hu (I1.b_ a u ha)
  refine A9 hs ho hc hd ?_
  have mu:Mut (H1 a):=by rw[ha];cases u<;>first|exact hu.elim|trivial
  have I2:aL X ah σ (bF H1 a (.pP o u)) { s1 with heap:=s1.heap.push { cls:=.type "dict_keyiterator",data:=.fields #[.ref a,.int 0 0,.int es.size 0,.int ep 0]} }:=I1.ji (t':=s1.toks) (x:=a) (e:=a) mu (.inl rfl) (λb v _ e=>zac _ e) ⟨o,zac _ ho⟩
   ⟨zac _ ho,(I1.b_ a u ha).pU (λb v _ e=>zac _ e) (λb hb=>by rw[au (λz=>by subst z;rw[ha] at hb;cases hb;exact hu.elim)];exact hb) λb xs hb=>by rw[au (λz=>by subst z;rw[ha] at hb;cases hb;exact hu.elim)];exact hb⟩
  refine⟨s1.heap.objs.size,[s1.heap.objs.size],_,_,_,rfl,I2,wW a _ hc hd hn hr,⟨_,zap _ rfl,rfl,rfl⟩,λb hb=>?_,q o ks hk⟩
  have e:b=s1.heap.objs.size:=by simpa using hb
  subst e;exact I1.Ds (zah _) (by rw[au (λz=>absurd (I1.b_.lt ha) (by rw[<-z];exact zaJ _))];exact I1.b_.fresh (zah _))
 ·have hob:=(show cD X.prog X.w H1 s1.heap a (.pP o u) from I1.b_ a _ ha)
  obtain⟨hs,o',ks,es,ep,ho,hk,hc,hd,hn,hr⟩:=F_ hu hob.2;have eo:o'=o:=by have:=hob.1;rw[ho] at this;exact zav this
  subst eo;refine A9 hs ho hc hd ?_
  refine⟨s1.heap.objs.size,[s1.heap.objs.size],_,_,H1,rfl,I1.gZ (t':=s1.toks) λb o e=>zac _ e,wW a _ hc hd hn hr,⟨_,zap _ rfl,rfl,rfl⟩,λb hb=>?_,q ks hk⟩
  have e:b=s1.heap.objs.size:=by simpa using hb
  subst e;exact I1.Ds (zah _) (I1.b_.fresh (zah _))
section
variable {X:Cx}{o:Expr}{lo:Option Expr}{to:TE}{tl:TO}{p2 pos:Pos}
end
theorem IJ:typeLookup (.type "list") "keys"=pure none:=am_miss_of_fast (by decide +kernel)
theorem IK (hx:s.heap.get? a=some { cls:=.type "list",data:=.seq xs k})(hA:A.handled=none)
  (h:∀h' tk,(∀b o,s.heap.get? b=some o->h'.get? b=some o)->Q none {s with heap:=h',toks:=tk}):wpAny (model prog w) A (getAttr? (.ref a) "keys") Q E s:=by
 obtain⟨hp,g,d,tk,os⟩:=s;have hT:∀tk',(⟨hp,g,d,tk',os⟩:Shared).TypeIs (.ref a) "list" := λ_=>⟨_,hx,rfl⟩
 have f1:=sub_AttributeError;have f3:=zcz.lookup;have f4:=zcz.bind (.ref a)
 have f5:=am_list_getattr_none;unfold getAttr? getAttrBy? getAttrBy
 repeat (any_goals (first|assumption|exact hT _ | ((with_reducible show wpAny _ _ (call (Value.builtin "list.__getattribute__") _ _) _ _ _);refine call_meets zcz (hT _) am_entry_list_getattribute (F.args_list_getattribute_2 _ _) (meets_getattribute_miss_list a xs k #[] _ _ IJ (by decide +kernel)) ⟨hx,hA,λh' tk' e Vi=>?_⟩)|wp_step))
 ·obtain⟨t',u',he⟩:=Vi.there
  show wpAny _ _ (getattributeRaised _ _ _ _ _ _ _) _ _ _
  unfold getattributeRaised;repeat (any_goals (first|assumption|wp_step))
  exact h _ _ Vi.keeps
theorem wX:entryFor table "dict.update.loop"=some Builtin.«dict.update.loop»:= entryFor_of_tree (by kernel_rfl)
theorem mV:plainId "dict.update.loop"=true:=by decide +kernel
noncomputable def tE (kv:Nat->dI×Value):Nat->List (dI×Value)
 |0=>[]
 |i+1=>stored (tE kv i) (kv i).1 (kv i).2
theorem DZ (l:List (dI×Value))(k:dI)(v:Value):(stored l k v).length<=l.length+1:=by
 unfold stored;split
 ·rw[zae];omega
 ·simp
theorem zm (kv:Nat->dI×Value):∀i,(tE kv i).length<=i
 |0=>zah _
 |i+1=>zai (DZ _ _ _) (Nat.succ_le_succ (zm kv i))
section
variable {prog:Program}{w:World}{A:Around}{R:Result->Shared->Prop}{I:Addr}{fp wr:List Addr}{G:Array GenState->Array GenState->Prop}{n:Nat}{P:Nat->Value->Prop}{St:Nat->Shared->Prop}
theorem DictOf.gZ {h h':Heap}(q:h.DictOf (bX prog w) S l)(k:∀o,h.get? S=some o->h'.get? S=some o):h'.DictOf (bX prog w) S l:=by
 obtain⟨o,es,ep,ho,dc⟩:=q;exact⟨o,es,ep,k o ho,dc⟩
noncomputable def qb (h:Heap)(a:Addr)(k x:Value):Prop:=∃o m,h.get? a=some o/\o.cls = .type "tuple" /\ o.data = .seq #[k,x] m
theorem IM (W:WalksS prog w A.in1 I fp wr G n P St)(S:Addr)(hSf:S∉fp)(ad:Nat->Addr)(kk:Nat->Value)(kv:Nat->dI×Value)(aad:∀i v,P i v->v = .ref (ad i))(KR:∀i,i<n->lT (kv i).1 (kk i)=true)(hn:n<=1000)(had:∀i,i<n->ad i∉S::wr)(j:Nat):
  ∀(i:Nat) (t:Tok) (s:Shared),n=i+j->St i s->s.heap.DictOf (bX prog w) S (tE kv i)->(∀m,m<n->qb s.heap (ad m) (kk m) (kv m).2) ->
   (∀s',Moved (S::wr) G s s'->s'.heap.DictOf (bX prog w) S (tE kv n)->R (.ok (.ret .none)) s')->codeAny (model prog w) A (.builtin "dict.update.loop" ⟨[.ref S,.ref I,.int i t,.none],[]⟩) R s:=by
 have hSw:S∉wr:=λh=>hSf (W.sub _ h)
 induction j with
 |zero =>
  intro i t s hi pQ hS hp hR;subst hi;refine codeAny_builtin wX ?_
  rw[Around.under_plainId mV _];refine zaa (W.done s _ _ pQ λs' hm=>?_)
  show wpAny _ _ (Builtin.Dict.addKeywords S [] >>= _) _ _ _
  exact zaa (zaf (zaf (hR s' (hm.mono λb hb=>zaO _ hb) (DictOf.gZ hS λo ho=>hm.heap S o hSw ho))))
 |succ j ih =>
  intro i t s hi pQ hS hp hR;refine codeAny_builtin wX ?_
  rw[Around.under_plainId mV _];refine zaa (W.item i s _ _ (by omega) pQ λv s' hP amb hm=>?_)
  have hv:=aad i v hP;subst hv;have hS':s'.heap.DictOf (bX prog w) S (tE kv i):=DictOf.gZ hS λo ho=>hm.heap S o hSw ho
  have hp':∀m,m<n->qb s'.heap (ad m) (kk m) (kv m).2:=λm hmn=>by
   obtain⟨o,q,ho,dc⟩:=hp m hmn;exact⟨o,q,hm.heap _ o (λz=>had m hmn (zaO _ z)) ho,dc⟩
  obtain⟨o,q,ho,hc,hd⟩:=hp' i (by omega)
  have hT:s'.TypeIs (.ref (ad i)) "tuple" := ⟨o,ho,hc⟩
  refine zaa (zbu ?_)
  refine zaa (wpAny_tryCatch ?_)
  unfold Builtin.Dict.pairItems;refine zaa (wpAny_typeOf hT ?_)
  rw[if_pos (by decide)]
  unfold seqItems?
  refine zaa (zaa (wpAny_load ho ?_))
  rw[hd];refine zaf (zaf ?_)
  show wpAny _ _ (holding [kk i,(kv i).2] (dictSet S (kk i) (kv i).2)) _ _ _
  have Kh:=zm kv i;refine zbu (wpAny_dictSet_pairs (KR i (by omega)) hS' (λh' Df Vj=>?_) (zai (by omega:(tE kv i).length<=1000) (by decide)))
  refine zaf ⟨plainId_quiet mV _,ih (i+1) _ _ (by omega) (W.frame _ s' _ _ amb (zbb _) λb hb o e=>?_) Df (λm hmn=>?_) λs'' amd ame=>?_⟩
  ·rw[Vj.2 b (λz:b=S=>hSf (by rw[<-z];exact hb))];exact e
  ·obtain⟨o2,q2,ho2,dc⟩:=hp' m hmn
   exact⟨o2,q2,by rw[Vj.2 _ (λz=>had m hmn (by rw[z];exact zbJ))];exact ho2,dc⟩
  ·refine hR s'' (Moved.trans W.gtrans ((hm.mono λb hb=>zaO _ hb).then_heap (zbb _) λb o hb e=>?_) amd) ame
   rw[Vj.2 b (λz:b=S=>hb (by rw[z];exact zbJ))];exact e
end
section
variable {prog:Program}{w:World}{A:Around}{E:Value->Shared->Prop}{s:Shared}
theorem rE {l:Addr}{ad:Nat->Addr}{kk:Nat->Value}(hh:A.handled=none)(hol:s.heap.get? l=some { cls:=.type "list",data:=.seq items nl})
  (aad:∀i v,items[i]? = some v->v=Value.ref (ad i)) (KR:∀i,i<items.size->lT (kv i).1 (kk i)=true) (hn:items.size<=1000) (hp:∀m,m<items.size->qb s.heap (ad m) (kk m) (kv m).2)
  (h:∀(h':Heap) (tk:Nat),h'.DictOf (bX prog w) s.heap.objs.size (tE kv items.size)->(∀b o,s.heap.get? b=some o->h'.get? b=some o)->Q (.ref s.heap.objs.size) {s with heap:=h',toks:=tk}):
  wpAny (model prog w) A (call (.type "dict") [.ref l]) Q E s:=by
 refine callType_codes (Q₁:= λlW cM=>lW = .ref s.heap.objs.size/\cM = { s with heap:=s.heap.push { cls:=.type "dict",data:=.dict #[]} }) F.kt_called_dict (F.kt_typeCall_dict_1 _) F.entry_dict_init (kt_code_dict_new _ ⟨rfl,rfl⟩) ?_
 rintro lW cM ⟨rfl,rfl⟩
 have aaf:(s.heap.push { cls:=.type "dict",data:=.dict #[]}).DictOf (bX prog w) s.heap.objs.size []:=Heap.DictOf.new s.heap
 have aag:(s.heap.push { cls:=.type "dict",data:=.dict #[]}).get? l=some { cls:=.type "list",data:=.seq items nl}:=zac _ hol
 have hlS:l<s.heap.objs.size:=zam hol
 refine⟨aaf.typeIs,F.args_dict_init_2 _ _,?_⟩
 unfold Builtin.«dict.__init__»
 refine zaa ?_
 unfold Builtin.Dict.selfAndRest;refine zaa (wpAny_notOrdered_dict aaf.typeIs (?_:wpAny _ _ (pure (s.heap.objs.size,[Value.ref l])) _ _ _))
 refine zaf ?_
 show wpAny _ _ (Builtin.Dict.updateFrom "dict.__init__" s.heap.objs.size (.ref l) [] .none) _ _ _
 unfold Builtin.Dict.updateFrom;refine zaa (wpAny_typeOf (T:= "list") ⟨_,aag,rfl⟩ ?_)
 rw[if_pos (by decide)]
 refine zaa (IK aag (by simp[hh]) λh1 tk1 hk1=>?_)
 simp only[zex,if_true];refine zaa (wpAny_rule ?_)
 have amf:h1.get? l=some { cls:=.type "list",data:=.seq items nl}:=hk1 _ _ aag
 have Vs:h1.DictOf (bX prog w) s.heap.objs.size []:=DictOf.gZ aaf λo ho=>hk1 _ _ ho
 have RN:h1.IsList l items:=⟨_,amf,rfl,nl,rfl⟩
 have RO:s.heap.objs.size<h1.objs.size:=by
  obtain⟨o,_,_,ho,_⟩:=Vs;exact zam ho
 refine zaa (zdp (s:={s with heap:=h1,toks:=tk1}) RN ?_)
 refine zaf ?_
 refine⟨plainId_quiet mV _,?_⟩
 have amg:l≠h1.objs.size:=zar (zdA hlS RO)
 have hSf:s.heap.objs.size∉[h1.objs.size,l]:=by
  simp only[zan,zaL,or_false,not_or];exact⟨zar RO,zbQ hlS⟩
 have hp1:∀m,m<items.size->qb h1 (ad m) (kk m) (kv m).2:=λm hm=>by
  obtain⟨o,q,ho,dc⟩:=hp m hm;exact⟨o,q,hk1 _ _ (zac _ ho),dc⟩
 refine IM ((Walks.list (by simp[hh]) _ l amg items).toS) s.heap.objs.size hSf ad kk kv (λi v hv=>aad i v hv) KR hn (λi hi=>?_) items.size 0 _ _ (by omega)
  ⟨⟨_,zap _ rfl,rfl,rfl⟩,(RN.push _)⟩ (DictOf.gZ Vs λo ho=>zac _ ho) (λm hm=>?_) ?_
 ·obtain⟨o,q,ho,_⟩:=hp i hi
  have:=zam ho
  simp only[zan,zaL,or_false,not_or];exact⟨zar this,zar (zdA this RO)⟩
 ·obtain⟨o,q,ho,dc⟩:=hp1 m hm
  exact⟨o,q,zac _ ho,dc⟩
 ·intro s' hm hS'
  obtain⟨h',g',d',tk',os'⟩:=s';have eg:g'=s.gens:=hm.gens
  have ed:d'=s.drawn:=hm.drawn
  have eo:os'=s.os:=hm.os
  subst eg;subst ed;subst eo;refine⟨rfl,h h' tk' hS' λb o e=>?_⟩
  have hb0:=zam e;exact hm.heap b o (by simp only[zan,zaL,or_false,not_or];exact⟨zar hb0,zar (zdA hb0 RO)⟩) (zac _ (hk1 _ _ (zac _ e)))
end
inductive Tr where
 |br|bl (b:Bool)|int (i:Int)|str (x:Str)|tp (l:List Tr)|ls (l:List Tr)|kt (l:List Tr)|kl (l:List Tr)|hd (n:Nat)
inductive Ce where
 |tF|bM (l:List Tr)|jn (l:List (dI×Tr))|dZ (c:Str) (fs:List (Str×Tr))|rF (c:Str) (fs:List (Str×Tr))|Ql (l:List (List dI×Tr))|v_ (l:List (dI×Tr))|D0 (l:List (List dI×Tr))
noncomputable def Ce.fz:Ce->Bool|.tF=>true|.v_ _=>true|.D0 _=>true|_=>false
noncomputable abbrev Cs:=List Ce
structure Wd where
 K:W.Frag
 n:Nat
 ρ:Nat->Addr
 F:Hp
 hid:Hp
structure Wd.le (w w':Wd):Prop where
 K:w'.K=w.K
 n:w.n<=w'.n
 r:∀i,i<w.n->w'.ρ i=w.ρ i
 F:∀b o,w.F b=some o->w'.F b=some o
 hid:w'.hid=w.hid
theorem Wd.le.refl (w:Wd):w.le w:=⟨rfl,zah _,λ_ _=>rfl,λ_ _ h=>h,rfl⟩
theorem Wd.le.trans {a b c:Wd}(h:a.le b)(g:b.le c):a.le c:=
 ⟨g.K.trans h.K,zai h.n g.n,λi hi=>(g.r i (zak hi h.n)).trans (h.r i hi),λb o e=>g.F b o (h.F b o e),g.hid.trans h.hid⟩
mutual
noncomputable def RT (w:Wd):Tr->V->Prop
 |.br,v=>v = .br
 |.bl b,v=>v = .bl b
 |.int i,v=>v = .int i
 |.str x,v=>v = .str x
 |.tp l,v=>∃a xs,v = .ref a/\w.F a=some (.gE xs)/\bJ w l xs
 |.ls l,v=>∃a xs,v = .ref a/\w.F a=some (.bM xs)/\bJ w l xs
 |.kt l,v=>∃a xs,v = .ref a/\nI w.K w.F a xs/\bJ w l xs
 |.kl l,v=>∃a xs,v = .ref a/\jk w.K w.F a xs/\bJ w l xs
 |.hd n,v=>n<w.n/\v = .ref (w.ρ n)
noncomputable def bJ (w:Wd):List Tr->List V->Prop
 |[],xs=>xs=[]
 |d::l,xs=>∃x r,xs=x::r/\RT w d x/\bJ w l r
end
theorem Rd.mono {H H':Hp}(h:∀b o,H b=some o->H' b=some o){a:Addr}{u:HO}(r:Rd H a u):Rd H' a u:=by
 rcases r with r|⟨o,r⟩
 ·exact .inl (h _ _ r)
 ·exact .inr ⟨o,h _ _ r⟩
theorem jk.mono {K:W.Frag}{H H':Hp}(h:∀b o,H b=some o->H' b=some o){a:Addr}{xs:List V}(r:jk K H a xs):jk K H' a xs:=r.imp (Rd.mono h) id
theorem nI.mono {K:W.Frag}{H H':Hp}(h:∀b o,H b=some o->H' b=some o){a:Addr}{xs:List V}(r:nI K H a xs):nI K H' a xs:=r.imp (Rd.mono h) id
mutual
theorem RT.mono {w w':Wd}(le:w.le w'):∀(t:Tr) (v:V),RT w t v->RT w' t v
 |.br,v,h=>by unfold RT at h ⊢;exact h
 |.bl b,v,h=>by unfold RT at h ⊢;exact h
 |.int b,v,h=>by unfold RT at h ⊢;exact h
 |.str b,v,h=>by unfold RT at h ⊢;exact h
 |.tp l,v,h=>by
  unfold RT at h ⊢
  obtain⟨a,xs,e,s,r⟩:=h;exact⟨a,xs,e,le.F _ _ s,bJ.mono le l xs r⟩
 |.ls l,v,h=>by
  unfold RT at h ⊢
  obtain⟨a,xs,e,s,r⟩:=h;exact⟨a,xs,e,le.F _ _ s,bJ.mono le l xs r⟩
 |.kt l,v,h=>by
  unfold RT at h ⊢
  obtain⟨a,xs,e,s,r⟩:=h;exact⟨a,xs,e,by rw[le.K];exact s.mono le.F,bJ.mono le l xs r⟩
 |.kl l,v,h=>by
  unfold RT at h ⊢
  obtain⟨a,xs,e,s,r⟩:=h;exact⟨a,xs,e,by rw[le.K];exact s.mono le.F,bJ.mono le l xs r⟩
 |.hd n,v,h=>by
  unfold RT at h ⊢
  exact⟨zak h.1 le.n,by rw[le.r n h.1];exact h.2⟩
theorem bJ.mono {w w':Wd}(le:w.le w'):∀(l:List Tr) (xs:List V),bJ w l xs->bJ w' l xs
 |[],xs,h=>by unfold bJ at h ⊢;exact h
 |d::l,xs,h=>by
  unfold bJ at h ⊢
  obtain⟨x,r,e,h1,h2⟩:=h;exact⟨x,r,e,RT.mono le d x h1,bJ.mono le l r h2⟩
end
mutual
theorem RT.bD {w:Wd}(hid:Hp):∀(t:Tr) (v:V),RT w t v->RT {w with hid:=hid} t v
 |.br,v,h=>by unfold RT at h ⊢;exact h
 |.bl b,v,h=>by unfold RT at h ⊢;exact h
 |.int b,v,h=>by unfold RT at h ⊢;exact h
 |.str b,v,h=>by unfold RT at h ⊢;exact h
 |.tp l,v,h=>by unfold RT at h ⊢;obtain⟨a,xs,e,s,r⟩:=h;exact⟨a,xs,e,s,bJ.bD hid l xs r⟩
 |.ls l,v,h=>by unfold RT at h ⊢;obtain⟨a,xs,e,s,r⟩:=h;exact⟨a,xs,e,s,bJ.bD hid l xs r⟩
 |.kt l,v,h=>by unfold RT at h ⊢;obtain⟨a,xs,e,s,r⟩:=h;exact⟨a,xs,e,s,bJ.bD hid l xs r⟩
 |.kl l,v,h=>by unfold RT at h ⊢;obtain⟨a,xs,e,s,r⟩:=h;exact⟨a,xs,e,s,bJ.bD hid l xs r⟩
 |.hd n,v,h=>by unfold RT at h ⊢;exact h
theorem bJ.bD {w:Wd}(hid:Hp):∀(l:List Tr) (xs:List V),bJ w l xs->bJ {w with hid:=hid} l xs
 |[],xs,h=>by unfold bJ at h ⊢;exact h
 |d::l,xs,h=>by
  unfold bJ at h ⊢
  obtain⟨x,r,e,h1,h2⟩:=h;exact⟨x,r,e,RT.bD hid d x h1,bJ.bD hid l r h2⟩
end
theorem bJ.nil {w:Wd}:bJ w [] []:=by unfold bJ;rfl
theorem bJ.cons {w:Wd}{t:Tr}{l:List Tr}{v:V}{xs:List V}(h:RT w t v)(r:bJ w l xs):bJ w (t::l) (v::xs):=by unfold bJ;exact⟨v,xs,rfl,h,r⟩
theorem bJ.cC {w:Wd}{xs:List V}(h:bJ w [] xs):xs=[]:=by unfold bJ at h;exact h
theorem bJ.bE {w:Wd}{t:Tr}{l:List Tr}{xs:List V}(h:bJ w (t::l) xs):∃x r,xs=x::r/\RT w t x/\bJ w l r:=by unfold bJ at h;exact h
theorem bJ.len {w:Wd}:∀{l:List Tr} {xs:List V},bJ w l xs->xs.length=l.length
 |[],xs,h=>by rw[h.cC];rfl
 |d::l,xs,h=>by
  obtain⟨x,r,rfl,_,h2⟩:=h.bE;simp[bJ.len h2]
theorem bJ.get {w:Wd}:∀{l:List Tr} {xs:List V} {i:Nat} {t:Tr},bJ w l xs->l[i]? = some t->∃v,xs[i]? = some v/\RT w t v
 |[],xs,i,t,h,e=>by simp at e
 |d::l,xs,i,t,h,e=>by
  obtain⟨x,r,rfl,h1,h2⟩:=h.bE;cases i with
  |zero=>simp at e;subst e;exact⟨x,rfl,h1⟩
  |succ i=>simpa using bJ.get (i:=i) h2 (by simpa using e)
theorem bJ.rW {w:Wd}:∀{l m:List Tr} {xs ys:List V},bJ w l xs->bJ w m ys->bJ w (l++m) (xs++ys)
 |[],m,xs,ys,h,g=>by rw[h.cC];exact g
 |d::l,m,xs,ys,h,g=>by
  obtain⟨x,r,rfl,h1,h2⟩:=h.bE;exact .cons h1 (bJ.rW h2 g)
theorem bJ.set {w:Wd}{t:Tr}{v:V}(ht:RT w t v):∀{l:List Tr} {xs:List V} (i:Nat),bJ w l xs->bJ w (l.set i t) (xs.set i v)
 |[],xs,i,h=>by rw[h.cC];exact .nil
 |d::l,xs,i,h=>by
  obtain⟨x,r,rfl,h1,h2⟩:=h.bE;cases i with
  |zero=>exact .cons ht h2
  |succ i=>exact .cons h1 (bJ.set ht i h2)
theorem bJ.take {w:Wd}:∀{l:List Tr} {xs:List V} (n:Nat),bJ w l xs->bJ w (l.take n) (xs.take n)
 |[],xs,n,h=>by rw[h.cC];simp;exact .nil
 |d::l,xs,0,h=>by simp;exact .nil
 |d::l,xs,n+1,h=>by
  obtain⟨x,r,rfl,h1,h2⟩:=h.bE;exact .cons h1 (bJ.take n h2)
theorem bJ.drop {w:Wd}:∀{l:List Tr} {xs:List V} (n:Nat),bJ w l xs->bJ w (l.drop n) (xs.drop n)
 |[],xs,n,h=>by rw[h.cC];simp;exact .nil
 |d::l,xs,0,h=>h
 |d::l,xs,n+1,h=>by
  obtain⟨x,r,rfl,h1,h2⟩:=h.bE;exact bJ.drop n h2
theorem bJ.snoc {w:Wd}{l:List Tr}{xs:List V}{t:Tr}{v:V}(h:bJ w l xs)(g:RT w t v):bJ w (l++[t]) (xs++[v]):=h.rW (.cons g .nil)
noncomputable def RK (w:Wd){α:Type}(l:List (α × Tr))(m:List (α × V)):Prop:=m.map Prod.fst=l.map Prod.fst/\bJ w (l.map Prod.snd) (m.map Prod.snd)
theorem RK.mono {w w':Wd}(le:w.le w'){α:Type}{l:List (α × Tr)}{m:List (α × V)}(h:RK w l m):RK w' l m:=⟨h.1,bJ.mono le _ _ h.2⟩
theorem RK.nil {w:Wd}{α:Type}:RK w ([]:List (α × Tr)) []:=⟨rfl,.nil⟩
theorem RK.cons {w:Wd}{α:Type}{k:α}{t:Tr}{v:V}{l:List (α × Tr)}{m:List (α × V)}(h:RT w t v)(r:RK w l m):RK w ((k,t)::l) ((k,v)::m):=⟨by simp[r.1],.cons h r.2⟩
theorem RK.bE {w:Wd}{α:Type}{k:α}{t:Tr}{l:List (α × Tr)}{m:List (α × V)}(h:RK w ((k,t)::l) m):∃v r,m=(k,v)::r/\RT w t v/\RK w l r:=by
 obtain⟨h1,h2⟩:=h;cases m with
 |nil=>simp at h1
 |cons p r =>
  obtain⟨q,v⟩:=p;simp only[zas,List.cons.injEq] at h1;obtain⟨x,r',e,g1,g2⟩:=h2.bE;simp only[zas,List.cons.injEq] at e;obtain⟨rfl,rfl⟩:=e;obtain⟨rfl,e2⟩:=h1;exact⟨v,r,rfl,g1,e2,g2⟩
theorem RK.cC {w:Wd}{α:Type}{m:List (α × V)}(h:RK w ([]:List (α × Tr)) m):m=[]:=by simpa using h.1
theorem RK.len {w:Wd}{α:Type}{l:List (α × Tr)}{m:List (α × V)}(h:RK w l m):m.length=l.length:=by simpa using congrArg List.length h.1
noncomputable def eS (S:Cs)(i:Nat):Prop:=∃c,S[i]? = some c/\c.fz=false
open Classical in
noncomputable def Fz (ρ:Nat->Addr)(hid:Hp)(S:Cs)(H:Hp):Hp:=λb=>if (∃i,eS S i /\ ρ i=b)\/hid b≠none then none else H b
structure Gx where
 K:W.Frag
 cl:Str->Addr
 E:XK
noncomputable def bG (G:Gx)(w:Wd)(H:Hp)(a:Addr):Ce->Prop
 |.tF=>True
 |.bM l=>∃xs,H a=some (.bM xs)/\bJ w l xs
 |.jn l=>∃aO,H a=some (.dK aO)/\RK w l aO
 |.dZ c fs=>∃dx tG,H a=some (.dZ (G.cl c) dx tG)/\RK w fs tG
 |.rF c fs=>∃T d tG,H a=some (oN a (G.cl c) (some d) T)/\w.F T=some (TB T)/\w.F d=some (ED d tG)/\T≠a/\d≠a/\RK w fs tG
 |.Ql l=>∃aO,H a=some (.dT aO)/\RK w l aO
 |.v_ l=>∃o aO,w.F a=some (.pP o (.dK aO))/\RK w l aO
 |.D0 l=>∃o aO,w.F a=some (.pP o (.dT aO))/\RK w l aO
theorem bG.mono {G:Gx}{w w':Wd}(le:w.le w'){H H':Hp}{a:Addr}(hH:∀o,H a=some o->H' a=some o):∀{c:Ce},bG G w H a c->bG G w' H' a c
 |.tF,_=>trivial
 |.bM l,h=>let ⟨xs,e,r⟩:=h;⟨xs,hH _ e,bJ.mono le _ _ r⟩
 |.jn l,h=>let ⟨xs,e,r⟩:=h;⟨xs,hH _ e,r.mono le⟩
 |.dZ c l,h=>let ⟨dx,xs,e,r⟩:=h;⟨dx,xs,hH _ e,r.mono le⟩
 |.rF c l,h=>let ⟨T,d,xs,e,e2,e3,n1,n2,r⟩:=h;⟨T,d,xs,hH _ e,le.F _ _ e2,le.F _ _ e3,n1,n2,r.mono le⟩
 |.Ql l,h=>let ⟨xs,e,r⟩:=h;⟨xs,hH _ e,r.mono le⟩
 |.v_ l,h=>let ⟨o,xs,e,r⟩:=h;⟨o,xs,le.F _ _ e,r.mono le⟩
 |.D0 l,h=>let ⟨o,xs,e,r⟩:=h;⟨o,xs,le.F _ _ e,r.mono le⟩
theorem bG.LU {G:Gx}{w w':Wd}(le:w.le w'){H H':Hp}{a:Addr}:∀{c:Ce},c.fz=true->bG G w H a c->bG G w' H' a c
 |.tF,_,_=>trivial
 |.v_ l,_,h=>let ⟨o,xs,e,r⟩:=h;⟨o,xs,le.F _ _ e,r.mono le⟩
 |.D0 l,_,h=>let ⟨o,xs,e,r⟩:=h;⟨o,xs,le.F _ _ e,r.mono le⟩
theorem RK.bD {w:Wd}(hid:Hp){α:Type}{l:List (α × Tr)}{m:List (α × V)}(h:RK w l m):RK {w with hid:=hid} l m:=⟨h.1,bJ.bD hid _ _ h.2⟩
theorem bG.bD {G:Gx}{w:Wd}{hid:Hp}{H H':Hp}{a:Addr}(hH:∀o,H a=some o->H' a=some o):∀{c:Ce},bG G w H a c->bG G {w with hid:=hid} H' a c
 |.tF,_=>trivial
 |.bM l,h=>let ⟨xs,e,r⟩:=h;⟨xs,hH _ e,bJ.bD hid _ _ r⟩
 |.jn l,h=>let ⟨xs,e,r⟩:=h;⟨xs,hH _ e,r.bD hid⟩
 |.dZ c l,h=>let ⟨dx,xs,e,r⟩:=h;⟨dx,xs,hH _ e,r.bD hid⟩
 |.rF c l,h=>let ⟨T,d,xs,e,e2,e3,n1,n2,r⟩:=h;⟨T,d,xs,hH _ e,e2,e3,n1,n2,r.bD hid⟩
 |.Ql l,h=>let ⟨xs,e,r⟩:=h;⟨xs,hH _ e,r.bD hid⟩
 |.v_ l,h=>let ⟨o,xs,e,r⟩:=h;⟨o,xs,e,r.bD hid⟩
 |.D0 l,h=>let ⟨o,xs,e,r⟩:=h;⟨o,xs,e,r.bD hid⟩
theorem bG.IP {G:Gx}{w:Wd}{hid:Hp}{H H':Hp}{a:Addr}:∀{c:Ce},c.fz=true->bG G w H a c->bG G {w with hid:=hid} H' a c
 |.tF,_,_=>trivial
 |.v_ l,_,h=>let ⟨o,xs,e,r⟩:=h;⟨o,xs,e,r.bD hid⟩
 |.D0 l,_,h=>let ⟨o,xs,e,r⟩:=h;⟨o,xs,e,r.bD hid⟩
theorem bG.aai {G:Gx}{w:Wd}{F' RP:Hp}(hF:∀b o,w.F b=some o->F' b=some o){H:Hp}{a:Addr}{c:Ce}(h:bG G w H a c):bG G {w with hid:=RP,F:=F' } H a c:=
 bG.mono (w:={w with hid:=RP}) (w':={w with hid:=RP,F:=F' }) ⟨rfl,zah _,λ_ _=>rfl,hF,rfl⟩ (λ_ e=>e) (bG.bD (hid:=RP) (λ_ e=>e) h)
theorem bG.some {G:Gx}{w:Wd}{H:Hp}{a:Addr}:∀{c:Ce},bG G w H a c->c.fz=false->∃o,H a=some o
 |.tF,_,n=>by cases n
 |.bM l,h,_=>let ⟨xs,e,r⟩:=h;⟨_,e⟩
 |.jn l,h,_=>let ⟨xs,e,r⟩:=h;⟨_,e⟩
 |.dZ c l,h,_=>let ⟨dx,xs,e,r⟩:=h;⟨_,e⟩
 |.rF c l,h,_=>let ⟨T,d,xs,e,_⟩:=h;⟨_,e⟩
 |.Ql l,h,_=>let ⟨xs,e,r⟩:=h;⟨_,e⟩
 |.v_ l,_,n=>by cases n
 |.D0 l,_,n=>by cases n
structure HR (G:Gx) (w:Wd) (S:Cs) (H:Hp):Prop where
 K:w.K=G.K
 n:w.n=S.length
 F:w.F=Fz w.ρ w.hid S H
 cell:∀i c,S[i]? = some c->bG G w H (w.ρ i) c
 inj:∀i j,eS S i->eS S j->w.ρ i=w.ρ j->i=j
 hid:∀b o,w.hid b=some o->H b=some o
 jP:∀i,eS S i->w.hid (w.ρ i)=none
 hl:∀b xs,w.hid b≠some (.gE xs)
theorem HR.sub (h:HR G w S H):∀b o,w.F b=some o->H b=some o:=λb o e=>by
 rw[h.F] at e;unfold Fz at e;split at e
 ·cases e
 ·exact e
theorem HR.sqL (h:HR G w S H){a:Addr}{xs:List V}(s:jk w.K w.F a xs):jk G.K H a xs:=by rw[<-h.K];exact s.mono h.sub
theorem HR.sqT (h:HR G w S H){a:Addr}{xs:List V}(s:nI w.K w.F a xs):nI G.K H a xs:=by rw[<-h.K];exact s.mono h.sub
theorem HR.live (h:HR G w S H){i:Nat}(l:eS S i):∃o,H (w.ρ i)=some o:=by
 obtain⟨c,e,n⟩:=l;exact (h.cell i c e).some n
theorem HR.Ga (h:HR G w S H){p:Addr}(hp:H p=none):w.hid p=none:=by
 cases e:w.hid p with
 |none=>rfl
 |some o=>rw[h.hid p o e] at hp;cases hp
theorem HR.free (h:HR G w S H){p:Addr}(hp:H p=none):¬ ((∃i,eS S i/\w.ρ i=p)\/w.hid p≠none):=by
 rintro (⟨i,l,rfl⟩|z)
 ·obtain⟨o,e⟩:=h.live l
  rw[hp] at e;cases e
 ·exact z (h.Ga hp)
theorem HR.LV (h:HR G w S H){p:Addr}(hp:H p=none):w.F p=none:=by rw[h.F];unfold Fz;rw[if_neg (h.free hp)];exact hp
theorem zo {hid:Hp}{H:Hp}{p:Addr}{o:HO}(h:∀b o,hid b=some o->H b=some o)(hp:hid p=none):∀b u,hid b=some u->bF H p o b=some u:=λb u e=>by
 rw[au λz=>by subst z;rw[hp] at e;cases e]
 exact h b u e
theorem LW {hid:Hp}{p:Addr}{o:HO}(h:∀b xs,hid b≠some (.gE xs))(ho:∀xs,o ≠ .gE xs):∀b xs,bF hid p o b≠some (.gE xs):=λb xs e=>by
 by_cases hb:b=p
 ·subst hb;rw[ay] at e;cases e;exact ho _ rfl
 ·rw[au hb] at e;exact h b xs e
theorem HR.lay (h:HR G w S H){p:Addr}(hp:H p=none)(o:HO):HR G {w with F:=bF w.F p o} S (bF H p o)/\w.le {w with F:=bF w.F p o}:=by
 have hn:=h.free hp;have hF:=h.LV hp;have le:w.le {w with F:=bF w.F p o}:=⟨rfl,zah _,λ_ _=>rfl,λb u e=>kF hF e,rfl⟩
 refine⟨⟨h.K,h.n,?_,λi c e=>(h.cell i c e).mono le λu eu=>kF hp eu,h.inj,zo h.hid (h.Ga hp),h.jP,h.hl⟩,le⟩
 show bF w.F p o=Fz w.ρ w.hid S (bF H p o)
 rw[h.F];funext b
 by_cases hb:b=p
 ·subst hb
  rw[ay];unfold Fz;rw[if_neg hn,ay]
 ·rw[au hb]
  unfold Fz;rw[au hb]
theorem wY {c:Ce}(hc:c.fz=false):∀i,eS (S++[c]) i↔eS S i\/i=S.length:=λi=>by
  constructor
  ·rintro⟨d,e,n⟩
   by_cases hi:i<S.length
   ·rw[zaj hi] at e;exact .inl ⟨d,e,n⟩
   ·rw[zat (by omega)] at e
    have:i - S.length<1:=by
     have:=(zab.mp e).1
     simpa using this
    exact .inr (by omega)
  ·rintro (⟨d,e,n⟩|rfl)
   ·exact⟨d,by rw[zaj (zab.mp e).1];exact e,n⟩
   ·exact⟨c,by simp,hc⟩
theorem eS.lt {i:Nat}(l:eS S i):i<S.length:=let ⟨_,e,_⟩:=l;(zab.mp e).1
noncomputable def Wd.up (w:Wd)(p:Addr):Wd:={w with n:=w.n+1,ρ:= λi=>if i=w.n then p else w.ρ i}
theorem Wd.tH (w:Wd)(p:Addr):w.le (w.up p):=⟨rfl,zbb _,λi hi=>by show (if i=w.n then p else w.ρ i)=_;rw[if_neg (by omega)],λb u e=>e,rfl⟩
theorem HR.agR (h:HR G w S H){p:Addr}{H':Hp}{c:Ce}(hc:c.fz=false)(rX:∀i,eS S i->w.ρ i≠p)(hH:∀b,b≠p->H' b=H b)(hF:w.F p=none)(hh:w.hid p=none)
  (ok:bG G (w.up p) H' p c):HR G (w.up p) (S++[c]) H':=by
 have lv:=wY (S:=S) hc
 have le:=w.tH p;have iP:∀i,i<S.length->(w.up p).ρ i=w.ρ i:=λi hi=>le.r i (by rw[h.n];exact hi)
 have qc:(w.up p).ρ S.length=p:=by show (if S.length=w.n then p else w.ρ S.length)=p;rw[if_pos h.n.symm]
 refine⟨h.K,by show w.n+1=_;simp[h.n],?_,λi d e=>?_,λi j li lj e=>?_,λb o e=>?_,λi li=>?_,h.hl⟩
 ·show w.F=Fz (w.up p).ρ w.hid (S++[c]) H'
  rw[h.F];funext b
  unfold Fz;by_cases hb:b=p
  ·subst hb
   rw[h.F] at hF;unfold Fz at hF;rw[hF,if_pos (.inl ⟨S.length,(lv _).mpr (.inr rfl),qc⟩)]
  ·rw[hH b hb]
   have Vt:(∃i,eS (S++[c]) i/\(w.up p).ρ i=b)↔∃i,eS S i/\w.ρ i=b:=by
    constructor
    ·rintro⟨i,li,e⟩
     rcases (lv i).mp li with l|rfl
     ·rw[iP i l.lt] at e
      exact⟨i,l,e⟩
     ·rw[qc] at e;exact absurd e.symm hb
    ·rintro⟨i,l,e⟩
     exact⟨i,(lv i).mpr (.inl l),by rw[iP i l.lt];exact e⟩
   by_cases hx:(∃i,eS S i/\w.ρ i=b)\/w.hid b≠none
   ·rw[if_pos hx,if_pos (hx.imp Vt.mpr λz=>z)]
   ·rw[if_neg hx,if_neg (λz=>hx (z.imp Vt.mp λz=>z))]
 ·by_cases hi:i<S.length
  ·rw[zaj hi] at e
   rw[iP i hi];cases hd:d.fz with
   |true=>exact bG.LU le hd (h.cell i d e)
   |false=>exact (h.cell i d e).mono le λu eu=>by rw[hH _ (rX i ⟨d,e,hd⟩)];exact eu
  ·rw[zat (by omega)] at e
   have h0:i - S.length<1:=by simpa using (zab.mp e).1
   have h1:i=S.length:=by omega
   subst h1;simp at e
   subst e;rw[qc];exact ok
 ·rcases (lv i).mp li with l|rfl
  ·rcases (lv j).mp lj with l' | rfl
   ·rw[iP i l.lt,iP j l'.lt] at e
    exact h.inj i j l l' e
   ·rw[iP i l.lt,qc] at e
    exact absurd e (rX i l)
  ·rcases (lv j).mp lj with l' | rfl
   ·rw[qc,iP j l'.lt] at e
    exact absurd e.symm (rX j l')
   ·rfl
 ·have e2:w.hid b=some o:=e
  rw[hH b λz=>by subst z;rw[hh] at e2;cases e2]
  exact h.hid b o e2
 ·show w.hid _=none
  rcases (lv i).mp li with l|rfl
  ·rw[iP i l.lt];exact h.jP i l
  ·rw[qc];exact hh
theorem HR.LX (h:HR G w S H){p:Addr}(hp:H p=none):∀i,eS S i->w.ρ i≠p:=λi l z=>h.free hp (.inl ⟨i,l,z⟩)
theorem HR.IQ (h:HR G w S H){p:Addr}(hp:H p=none){o:HO}{c:Ce}(hc:c.fz=false)(ok:bG G (w.up p) (bF H p o) p c):HR G (w.up p) (S++[c]) (bF H p o)/\w.le (w.up p):=
 ⟨h.agR hc (h.LX hp) (λb hb=>au hb) (h.LV hp) (h.Ga hp) ok,w.tH p⟩
theorem HR.DI (h:HR G w S H){i:Nat}{c c':Ce}(e:S[i]? = some c)(hc:c.fz=false)(Qw:c'.fz=false){o:HO}(ok:bG G w (bF H (w.ρ i) o) (w.ρ i) c'):HR G w (S.set i c') (bF H (w.ρ i) o):=by
 have hi:=(zab.mp e).1
 have lv:∀j,eS (S.set i c') j↔eS S j:=λj=>by
  unfold eS;by_cases hj:i=j
  ·subst hj
   rw[zaz hi];exact⟨λ_=>⟨c,e,hc⟩,λ_=>⟨c',rfl,Qw⟩⟩
  ·rw[zax hj]
 have li:eS S i:=⟨c,e,hc⟩
 refine⟨h.K,by simp[h.n],?_,λj d ej=>?_,λa b la lb=>h.inj a b ((lv a).mp la) ((lv b).mp lb),zo h.hid (h.jP i li),λj lj=>h.jP j ((lv j).mp lj),h.hl⟩
 ·rw[h.F]
  funext b
  unfold Fz;by_cases hn:(∃i,eS S i/\w.ρ i=b)\/w.hid b≠none
  ·rw[if_pos hn,if_pos (hn.imp (λz=>z.imp λj hj=>⟨(lv j).mpr hj.1,hj.2⟩) λz=>z)]
  ·rw[if_neg hn,if_neg (λz=>hn (z.imp (λz=>z.imp λj hj=>⟨(lv j).mp hj.1,hj.2⟩) λz=>z)),au λz=>hn (.inl ⟨i,⟨c,e,hc⟩,z.symm⟩)]
 ·by_cases hj:i=j
  ·subst hj
   rw[zaz hi] at ej;cases ej;exact ok
  ·rw[zax hj] at ej
   cases hd:d.fz with
   |true=>exact bG.LU (Wd.le.refl w) hd (h.cell j d ej)
   |false =>
    refine (h.cell j d ej).mono (Wd.le.refl w) λu eu=>?_
    rw[au λz=>hj (h.inj i j ⟨c,e,hc⟩ ⟨d,ej,hd⟩ z.symm)]
    exact eu
theorem HR.ami (h:HR G w S H){p:Addr}(hp:H p=none)(o:HO)(ho:∀xs,o ≠ .gE xs):HR G {w with hid:=bF w.hid p o} S (bF H p o):=by
 have hn:=h.free hp;have wi:∀{t:Tr} {v:V},RT w t v->RT {w with hid:=bF w.hid p o} t v:=λ{t v} r=>RT.bD _ t v r
 refine⟨h.K,h.n,?_,λi c e=>(h.cell i c e).bD λu eu=>kF hp eu,h.inj,λb u e=>?_,λi l=>?_,LW h.hl ho⟩
 ·show w.F=Fz w.ρ (bF w.hid p o) S (bF H p o)
  rw[h.F];funext b
  unfold Fz;by_cases hb:b=p
  ·subst hb
   rw[if_neg hn,if_pos (.inr (by rw[ay];simp)),hp]
  ·rw[au hb,au hb]
 ·have e:bF w.hid p o b=some u:=e
  by_cases hb:b=p
  ·subst hb;rw[ay] at e ⊢;exact e
  ·rw[au hb] at e ⊢;exact h.hid b u e
 ·show bF w.hid p o _=none
  rw[au (h.LX hp i l)];exact h.jP i l
theorem HR.aaj (h:HR G w S H){p:Addr}{o:HO}(hp:w.hid p=some o)(o':HO)(ho:∀xs,o' ≠ .gE xs):HR G {w with hid:=bF w.hid p o' } S (bF H p o'):=by
 have rX:∀i,eS S i->w.ρ i≠p:=λi l z=>by have:=h.jP i l;rw[z,hp] at this;cases this
 refine⟨h.K,h.n,?_,λi c e=>?_,h.inj,λb u e=>?_,λi l=>?_,LW h.hl ho⟩
 ·show w.F=Fz w.ρ (bF w.hid p o') S (bF H p o')
  rw[h.F];funext b
  unfold Fz;by_cases hb:b=p
  ·subst hb
   rw[if_pos (.inr (by rw[hp];simp)),if_pos (.inr (by rw[ay];simp))]
  ·rw[au hb,au hb]
 ·cases hd:c.fz with
  |true=>exact bG.IP hd (h.cell i c e)
  |false=>exact (h.cell i c e).bD λu eu=>by rw[au (rX i ⟨c,e,hd⟩)];exact eu
 ·have e:bF w.hid p o' b=some u:=e
  by_cases hb:b=p
  ·subst hb;rw[ay] at e ⊢;exact e
  ·rw[au hb] at e ⊢;exact h.hid b u e
 ·show bF w.hid p o' _=none
  rw[au (rX i l)];exact h.jP i l
theorem HR.agS (h:HR G w S H){p:Addr}{o:HO}{lN:Hp}(e0:w.hid=bF lN p o)(hp0:lN p=none):HR G {w with hid:=lN,F:=bF w.F p o} S H:=by
 have hp:w.hid p=some o:=by rw[e0];exact ay
 have hH:H p=some o:=h.hid p o hp
 have rX:∀i,eS S i->w.ρ i≠p:=λi l z=>by have:=h.jP i l;rw[z,hp] at this;cases this
 have hF:w.F p=none:=by rw[h.F];unfold Fz;rw[if_pos (.inr (by rw[hp];simp))]
 refine⟨h.K,h.n,?_,λi c e=>?_,h.inj,λb u e=>?_,λi l=>?_,λb xs (e:lN b=_)=>h.hl b xs (by rw[e0,au λz=>by rw[z,hp0] at e;cases e];exact e)⟩
 ·show bF w.F p o=Fz w.ρ lN S H
  rw[h.F];funext b
  unfold Fz;by_cases hb:b=p
  ·subst hb
   rw[ay,if_neg,hH];rintro (⟨i,l,z⟩|z)
   ·exact rX i l z
   ·exact z hp0
  ·rw[au hb,e0,au hb]
 ·exact bG.aai (λb u e=>kF hF e) (h.cell i c e)
 ·have e2:lN b=some u:=e
  have nb:b≠p:=λz=>by rw[z,hp0] at e2;cases e2
  exact h.hid b u (by rw[e0,au nb];exact e2)
 ·have:=h.jP i l
  rw[e0,au (rX i l)] at this;exact this
theorem HR.RQ (h:HR G w S H){p:Addr}{o:HO}{lN:Hp}(e0:w.hid=bF lN p o)(hp0:lN p=none){c:Ce}(hc:c.fz=false)(ok:bG G ({w with hid:=lN}.up p) H p c):HR G ({w with hid:=lN}.up p) (S++[c]) H:=by
 have hp:w.hid p=some o:=by rw[e0];exact ay
 have rX:∀i,eS S i->w.ρ i≠p:=λi l z=>by have:=h.jP i l;rw[z,hp] at this;cases this
 have lv:=wY (S:=S) hc
 have le:=({w with hid:=lN}:Wd).tH p
 have iP:∀i,i<S.length->(if i=w.n then p else w.ρ i)=w.ρ i:=λi hi=>by rw[if_neg (by rw[h.n];omega)]
 have qc:(if S.length=w.n then p else w.ρ S.length)=p:=by rw[if_pos h.n.symm]
 refine⟨h.K,by show w.n+1=_;simp[h.n],?_,λi d e=>?_,λi j li lj e=>?_,λb u e=>?_,λi li=>?_,λb xs (e:lN b=_)=>h.hl b xs (by rw[e0,au λz=>by rw[z,hp0] at e;cases e];exact e)⟩
 ·show w.F=Fz (λi=>if i=w.n then p else w.ρ i) lN (S++[c]) H
  rw[h.F];funext b
  unfold Fz;by_cases hb:b=p
  ·subst hb
   rw[if_pos (.inr (by rw[hp];simp)),if_pos (.inl ⟨S.length,(lv _).mpr (.inr rfl),qc⟩)]
  ·have Vt:(∃i,eS (S++[c]) i/\(if i=w.n then p else w.ρ i)=b)↔∃i,eS S i/\w.ρ i=b:=by
    constructor
    ·rintro⟨i,li,e⟩
     rcases (lv i).mp li with l|rfl
     ·rw[iP i l.lt] at e
      exact⟨i,l,e⟩
     ·rw[qc] at e;exact absurd e.symm hb
    ·rintro⟨i,l,e⟩
     exact⟨i,(lv i).mpr (.inl l),by rw[iP i l.lt];exact e⟩
   have eh:w.hid b=lN b:=by rw[e0,au hb]
   by_cases hx:(∃i,eS S i/\w.ρ i=b)\/w.hid b≠none
   ·rw[if_pos hx,if_pos (hx.imp Vt.mpr λz=>by rw[<-eh];exact z)]
   ·rw[if_neg hx,if_neg (λz=>hx (z.imp Vt.mp λz=>by rw[eh];exact z))]
 ·by_cases hi:i<S.length
  ·rw[zaj hi] at e
   show bG G _ H (if i=w.n then p else w.ρ i) d
   rw[iP i hi];exact ((h.cell i d e).bD (hid:=lN) λu eu=>eu).mono le λu eu=>eu
  ·rw[zat (by omega)] at e
   have h0:i - S.length<1:=by simpa using (zab.mp e).1
   have h1:i=S.length:=by omega
   subst h1;simp at e
   subst e;show bG G _ H (if S.length=w.n then p else w.ρ S.length) c
   rw[qc];exact ok
 ·have e:(if i=w.n then p else w.ρ i)=(if j=w.n then p else w.ρ j):=e
  rcases (lv i).mp li with l|rfl
  ·rcases (lv j).mp lj with l' | rfl
   ·rw[iP i l.lt,iP j l'.lt] at e
    exact h.inj i j l l' e
   ·rw[iP i l.lt,qc] at e
    exact absurd e (rX i l)
  ·rcases (lv j).mp lj with l' | rfl
   ·rw[qc,iP j l'.lt] at e
    exact absurd e.symm (rX j l')
   ·rfl
 ·have e2:lN b=some u:=e
  have nb:b≠p:=λz=>by rw[z,hp0] at e2;cases e2
  exact h.hid b u (by rw[e0,au nb];exact e2)
 ·show lN (if i=w.n then p else w.ρ i)=none
  rcases (lv i).mp li with l|rfl
  ·rw[iP i l.lt]
   have:=h.jP i l
   rw[e0,au (rX i l)] at this;exact this
  ·rw[qc];exact hp0
theorem aal {ρ:Nat->Addr}{hid:Hp}{m:Nat}:∀b o,Fz ρ hid S H b=some o->Fz ρ hid (S.take m) H b=some o:=λb o e=>by
 unfold Fz at e ⊢
 split at e
 ·cases e
 ·rename_i hn
  rw[if_neg]
  ·exact e
  ·rintro (⟨i,⟨c,ei,n⟩,r⟩|z)
   ·have hi:=(zab.mp ei).1
    rw[zbj] at hi;rw[zbz (by omega)] at ei
    exact hn (.inl ⟨i,⟨c,ei,n⟩,r⟩)
   ·exact hn (.inr z)
theorem HR.cut (h:HR G w S H){m:Nat}(hm:m<=S.length)(hb:∀i c,(S.take m)[i]? = some c->bG G {w with n:=m,F:=Fz w.ρ w.hid (S.take m) H} H (w.ρ i) c):HR G {w with n:=m,F:=Fz w.ρ w.hid (S.take m) H} (S.take m) H:=by
 have lv:∀i,eS (S.take m) i->eS S i:=λi ⟨c,e,n⟩=>⟨c,by
  have hi:=(zab.mp e).1
  rw[zbj] at hi;rw[zbz (by omega)] at e
  exact e,n⟩
 exact⟨h.K,by simp;omega,rfl,hb,λi j li lj e=>h.inj i j (lv i li) (lv j lj) e,h.hid,λi l=>h.jP i (lv i l),h.hl⟩
inductive R (α:Type) where
 |ok (a:α) (s:Cs)|ex (n:Nat) (s:Cs)|aG
noncomputable def R.aE {α β:Type}(r:R α)(k:α -> Cs->R β):R β:= match r with|.ok a s=>k a s|.ex n s=>.ex n s|.aG=>.aG
theorem R.e9 {α β:Type}(a:α)(s:Cs)(k:α -> Cs->R β):(R.ok a s).aE k=k a s:=rfl
theorem R.aam {α β:Type}(n:Nat)(s:Cs)(k:α -> Cs->R β):(R.ex n s:R α).aE k = .ex n s:=rfl
theorem R.RU {α β:Type}(k:α -> Cs->R β):(R.aG:R α).aE k = .aG:=rfl
noncomputable def wc {α:Type}(c:Prop)(a b:α):α:= @ite α c (Classical.propDecidable c) a b
theorem oQ {α:Type}{c:Prop}(h:c)(a b:α):wc c a b=a:=by unfold wc;rw[if_pos h]
theorem agT {α:Type}(a b:α):wc True a b=a:=oQ trivial a b
inductive RS where
 |nx (τ:List (Option Tr)) (s:Cs)|rt (t:Tr) (s:Cs)|bk (τ:List (Option Tr)) (s:Cs)|ct (τ:List (Option Tr)) (s:Cs)|ex (n:Nat) (s:Cs)|aG
noncomputable abbrev En:=List (Option Tr)
noncomputable abbrev Em:=En->Cs->R Tr
noncomputable abbrev Sm:=En->Cs->RS
structure Sl (w:Wd) (τ:En) (σ:St):Prop where
 len:τ.length=σ.length
 rq:∀(i:Nat) (t:Tr),τ[i]? = some (some t)->∃v,σ[i]? = some (some v)/\RT w t v
theorem Sl.mono {w w':Wd}(le:w.le w'){τ:En}{σ:St}(h:Sl w τ σ):Sl w' τ σ:= ⟨h.len,λi t e=>let ⟨v,e2,r⟩:=h.rq i t e;⟨v,e2,RT.mono le t v r⟩⟩
theorem Sl.set (h:Sl w τ σ)(i:Nat)(r:RT w t v):Sl w (τ.set i (some t)) (σ.set i (some v)):=by
 refine⟨by simp[h.len],λj u e=>?_⟩
 by_cases hj:i=j
 ·subst hj
  have hi:i<τ.length:=by
   have:=(zab.mp e).1
   simpa using this
  rw[zaz hi] at e;cases e;exact⟨v,by rw[zaz (by rw[<-h.len];exact hi)],r⟩
 ·rw[zax hj] at e
  rw[zax hj];exact h.rq j u e
theorem Sl.LY (h:Sl w τ σ)(i:Nat)(x:Option V):Sl w (τ.set i none) (σ.set i x):=by
 refine⟨by simp[h.len],λj u e=>?_⟩
 by_cases hj:i=j
 ·subst hj
  have hi:i<τ.length:=by
   have:=(zab.mp e).1
   simpa using this
  rw[zaz hi] at e;cases e
 ·rw[zax hj] at e
  rw[zax hj];exact h.rq j u e
noncomputable def oR (G:Gx)(w:Wd)(n:Nat)(S':Cs):Prop:=∃c fs,S'[n]? = some (.rF c fs)/\∀w' H',w.le w'->HR G w' S' H'->G.E (.ref (G.cl c)) (some (w'.ρ n)) H'
theorem oR.mono {G:Gx}{w w1:Wd}(le:w.le w1){n:Nat}{S:Cs}(h:oR G w n S):oR G w1 n S:=let ⟨c,fs,e,k⟩:=h;⟨c,fs,e,λw' H' l hr=>k w' H' (le.trans l) hr⟩
noncomputable def bA {α β:Type}(jm:Wd -> α -> β -> Prop)(G:Gx)(w:Wd)(r:R α)(Q:β -> Hp->Prop):Prop:=match r with
 |.ok a S'=>∀w' H' b,w.le w'->HR G w' S' H'->jm w' a b->Q b H'
 |.ex n S'=>oR G w n S'
 |.aG=>False
theorem bA.mono {α β:Type}{jm:Wd -> α -> β -> Prop}{G:Gx}{w:Wd}{r:R α}{Q Q' : β -> Hp->Prop}(h:bA jm G w r Q)(k:∀b H,Q b H->Q' b H):bA jm G w r Q':=by
 cases r with
 |ok a S=>exact λw' H' b le hr rl=>k _ _ (h w' H' b le hr rl)
 |ex n S=>exact h
 |aG=>exact h
theorem bA.wd {α β:Type}{jm:Wd -> α -> β -> Prop}{G:Gx}{w w1:Wd}(le:w.le w1){r:R α}{Q:β -> Hp->Prop}(h:bA jm G w r Q):bA jm G w1 r Q:=by
 cases r with
 |ok a S=>exact λw' H' b l hr rl=>h w' H' b (le.trans l) hr rl
 |ex n S=>exact oR.mono le h
 |aG=>exact h
theorem bA.aE {α β γ δ:Type}{jm:Wd -> α -> β -> Prop}{agU:Wd -> γ -> δ -> Prop}{G:Gx}{w:Wd}{r:R α}{k:α -> Cs->R γ}{Q:δ -> Hp->Prop}(h:bA agU G w (r.aE k) Q):
  bA jm G w r (λb H1=>∃w1 S1 a,w.le w1/\HR G w1 S1 H1/\jm w1 a b/\r = .ok a S1/\bA agU G w1 (k a S1) Q):=by
 cases r with
 |ok a S=>exact λw' H' b le hr rl=>⟨w',S,a,le,hr,rl,rfl,bA.wd le h⟩
 |ex n S=>exact h
 |aG=>exact h
noncomputable def cE (G:Gx)(w:Wd)(r:RS)(D:sJ):Prop:=match r with
 |.nx τ S'=>∀w' H' d7,w.le w'->HR G w' S' H'->Sl w' τ d7->D.nx d7 H'
 |.bk τ S'=>∀w' H' d7,w.le w'->HR G w' S' H'->Sl w' τ d7->D.bk d7 H'
 |.ct τ S'=>∀w' H' d7,w.le w'->HR G w' S' H'->Sl w' τ d7->D.ct d7 H'
 |.rt t S'=>∀w' H' v,w.le w'->HR G w' S' H'->RT w' t v->D.rt v H'
 |.ex n S'=>oR G w n S'
 |.aG=>False
theorem cE.wd {G:Gx}{w w1:Wd}(le:w.le w1){r:RS}{D:sJ}(h:cE G w r D):cE G w1 r D:=by
 cases r with
 |nx τ S=>exact λw' H' b l hr rl=>h w' H' b (le.trans l) hr rl
 |bk τ S=>exact λw' H' b l hr rl=>h w' H' b (le.trans l) hr rl
 |ct τ S=>exact λw' H' b l hr rl=>h w' H' b (le.trans l) hr rl
 |rt τ S=>exact λw' H' b l hr rl=>h w' H' b (le.trans l) hr rl
 |ex n S=>exact oR.mono le h
 |aG=>exact h
noncomputable def R.bP {α:Type}(r:R α)(k:α -> Cs->RS):RS:=match r with|.ok a s=>k a s|.ex n s=>.ex n s|.aG=>.aG
theorem R.fm {α:Type}(a:α)(s:Cs)(k:α -> Cs->RS):(R.ok a s).bP k=k a s:=rfl
theorem R.zq {α:Type}(n:Nat)(s:Cs)(k:α -> Cs->RS):(R.ex n s:R α).bP k = .ex n s:=rfl
theorem R.Ba {α:Type}(k:α -> Cs->RS):(R.aG:R α).bP k = .aG:=rfl
theorem cE.aE {α β:Type}{jm:Wd -> α -> β -> Prop}{G:Gx}{w:Wd}{r:R α}{k:α -> Cs->RS}{D:sJ}(h:cE G w (r.bP k) D):
  bA jm G w r (λb H1=>∃w1 S1 a,w.le w1/\HR G w1 S1 H1/\jm w1 a b/\r = .ok a S1/\cE G w1 (k a S1) D):=by
 cases r with
 |ok a S=>exact λw' H' b le hr rl=>⟨w',S,a,le,hr,rl,rfl,cE.wd le h⟩
 |ex n S=>exact h
 |aG=>exact h
structure jy (G:Gx) (k:Nat) (X:Cx):Prop where
 K:X.K=G.K
 fX:0<k->X.fX=true
 room:0<k->gH k X.A
 un:X.A.units+200<cLine
theorem jy.hu (o:jy G k X):X.A.units+100<cLine:=by have:=o.un;omega
theorem jy.hu1 (o:jy G k X):X.A.units+1<cLine:=by have:=o.hu;omega
noncomputable def fS (G:Gx)(f:Em):TE:=λσ H Q=>∃w S τ,HR G w S H/\Sl w τ σ /\ bA RT G w (f τ S) Q
noncomputable def Bb (G:Gx)(f:En->Cs->R Bool):TT:=λσ H Q=>∃w S τ,HR G w S H/\Sl w τ σ /\ bA (λ_ a b=>a=b) G w (f τ S) Q
noncomputable def D3 (G:Gx)(f:En->Cs->R (List Tr)):TA:=λσ H Q=>∃w S τ,HR G w S H/\Sl w τ σ /\ bA bJ G w (f τ S) Q
noncomputable def LZ (G:Gx)(f:Sm):TS:=λD σ H=>∃w S τ,HR G w S H/\Sl w τ σ /\ cE G w (f τ S) D
noncomputable def aan (G:Gx)(f:Tr->En->Cs->R En):TG:=λv σ H Q=>∃w S τ t,HR G w S H/\Sl w τ σ /\ RT w t v/\bA Sl G w (f t τ S) Q
structure TV (G:Gx) (k:Nat) (X:Cx) (e:Expr) (f:Em):Prop where
 kj:jy G k X->PE X e (fS G f)
noncomputable instance {G:Gx}{k:Nat}{X:Cx}{e:Expr}{f:Em}:CoeFun (TV G k X e f) (λ_=>jy G k X->PE X e (fS G f)):=⟨TV.kj⟩
structure Dg (G:Gx) (k:Nat) (X:Cx) (e:Expr) (f:En->Cs->R Bool):Prop where
 kj:jy G k X->PT X e (Bb G f)
noncomputable instance {G:Gx}{k:Nat}{X:Cx}{e:Expr}{f:En->Cs->R Bool}:CoeFun (Dg G k X e f) (λ_=>jy G k X->PT X e (Bb G f)):=⟨Dg.kj⟩
structure L4 (G:Gx) (k:Nat) (X:Cx) (e:Expr) (f:En->Cs->R Bool):Prop where
 kj:jy G k X->PW X e (Bb G f)
noncomputable instance {G:Gx}{k:Nat}{X:Cx}{e:Expr}{f:En->Cs->R Bool}:CoeFun (L4 G k X e f) (λ_=>jy G k X->PW X e (Bb G f)):=⟨L4.kj⟩
structure we (G:Gx) (k:Nat) (X:Cx) (es:List Expr) (f:En->Cs->R (List Tr)):Prop where
 kj:jy G k X->PA X es (D3 G f)
noncomputable instance {G:Gx}{k:Nat}{X:Cx}{es:List Expr}{f:En->Cs->R (List Tr)}:CoeFun (we G k X es f) (λ_=>jy G k X->PA X es (D3 G f)):=⟨we.kj⟩
structure zu (G:Gx) (k:Nat) (X:Cx) (st:Stmt) (f:Sm):Prop where
 kj:jy G k X->PS X st (LZ G f)
noncomputable instance {G:Gx}{k:Nat}{X:Cx}{st:Stmt}{f:Sm}:CoeFun (zu G k X st f) (λ_=>jy G k X->PS X st (LZ G f)):=⟨zu.kj⟩
structure IS (G:Gx) (k:Nat) (X:Cx) (st:List Stmt) (f:Sm):Prop where
 kj:jy G k X->wC X st (LZ G f)
noncomputable instance {G:Gx}{k:Nat}{X:Cx}{st:List Stmt}{f:Sm}:CoeFun (IS G k X st f) (λ_=>jy G k X->wC X st (LZ G f)):=⟨IS.kj⟩
structure L5 (G:Gx) (k:Nat) (X:Cx) (tg:Expr) (f:Tr->En->Cs->R En):Prop where
 kj:jy G k X->PG X tg (aan G f)
noncomputable instance {G:Gx}{k:Nat}{X:Cx}{tg:Expr}{f:Tr->En->Cs->R En}:CoeFun (L5 G k X tg f) (λ_=>jy G k X->PG X tg (aan G f)):=⟨L5.kj⟩
section
variable {X:Cx}{e:Expr}{st:Stmt}{sts:List Stmt}{es:List Expr}
theorem PE.wk {t t':TE}(h:PE X e t)(g:∀ σ H Q,t' σ H Q->t σ H Q):PE X e t':=λah s σ H Q I q=>h ah s σ H Q I (g _ _ _ q)
theorem PT.wk {t t':TT}(h:PT X e t)(g:∀ σ H Q,t' σ H Q->t σ H Q):PT X e t':=λah s σ H Q I q=>h ah s σ H Q I (g _ _ _ q)
theorem PW.wk {t t':TT}(h:PW X e t)(g:∀ σ H Q,t' σ H Q->t σ H Q):PW X e t':=λwh ah s σ H Q I q=>h wh ah s σ H Q I (g _ _ _ q)
theorem PA.wk {t t':TA}(h:PA X es t)(g:∀ σ H Q,t' σ H Q->t σ H Q):PA X es t':=λpos ah s σ H Q I q=>h pos ah s σ H Q I (g _ _ _ q)
theorem PS.wk {t t':TS}(h:PS X st t)(g:∀D σ H,t' D σ H->t D σ H):PS X st t':=λah s σ H D I q=>h ah s σ H D I (g _ _ _ q)
theorem wC.wk {t t':TS}(h:wC X sts t)(g:∀D σ H,t' D σ H->t D σ H):wC X sts t':=λah s σ H D I q=>h ah s σ H D I (g _ _ _ q)
theorem PG.wk {t t':TG}(h:PG X e t)(g:∀v σ H Q,t' v σ H Q->t v σ H Q):PG X e t':=λah s σ H v u Q I r q=>h ah s σ H v u Q I r (g _ _ _ _ q)
end
noncomputable def dN:Expr->Bool|.Starred _ _=>true|_=>false
noncomputable def cX:List Expr->Bool|[]=>true|e::r=>!dN e && cX r
theorem dF {e:Expr}{es:List Expr}{env:Env}(h:dN e=false):starEach (e::es) env=(false,eval e env)::starEach es env:=by
 cases e<;>first|rfl | (cases h;done)
theorem fD:∀{es:List Expr},cX es=true->(backTo pos (starEach es env)).any (·.1)=false
 |[],_=>rfl
 |e::es,h=>by
  have h:=zbf.mp (show (!dN e && cX es)=true from h)
  rw[dF (by simpa using h.1)]
  show (false || (backTo pos (starEach es env)).any (·.1))=false
  rw[fD h.2];rfl
theorem Bc:∀{es:List Expr},cX es=true->(backTo pos (starEach es env)).all (λx=>!x.1)=true
 |[],_=>rfl
 |e::es,h=>by
  have h:=zbf.mp (show (!dN e && cX es)=true from h)
  rw[dF (by simpa using h.1)]
  show (true && (backTo pos (starEach es env)).all (λx=>!x.1))=true
  rw[Bc h.2];rfl
section
variable {G:Gx}{k:Nat}{X:Cx}{a b c:Expr}{fa fb fc:Em}{pos RJ:Pos}
noncomputable def aa (i:Nat):Em:=λτ S=>match τ[i]? with|some (some t)=>.ok t S|_=>.aG
noncomputable def mC (t:Tr):Em:=λ_ S=>.ok t S
theorem aao (i:Nat)(hN:autoParam (X.N[i]? = some x) zp_0)(hv:autoParam (Vis X.env.scope x) zp_7)(hd:autoParam ((x == ("__debug__" : Str))=false) zp_1)
  (AI:autoParam ((x == ("__classdict__" : Str))=false) zp_1):TV G k X (.Name x pos) (aa i):=.mk<|λ_=>(Kz hN hv hd AI).wk λσ H Q h=>by
 obtain⟨w,S,τ,hr,sl,q⟩:=h;unfold aa at q;split at q
 ·rename_i t e
  obtain⟨v,e2,r⟩:=sl.rq i t e;exact⟨v,e2,q w H v (.refl w) hr r⟩
 ·exact q.elim
theorem L6 (h:PE X e (tC v))(r:∀w:Wd,w.K=G.K->RT w t v):TV G k X e (mC t):=.mk<|λ_=>h.wk λσ H Q h=>by
 obtain⟨w,S,τ,hr,sl,q⟩:=h;exact q w H v (.refl w) hr (r w hr.K)
theorem dU:RT w (.int i) (.int i):=by unfold RT;rfl
theorem kG:RT w (.str i) (.str i):=by unfold RT;rfl
theorem gJ {w:Wd}{i:Bool}:RT w (.bl i) (.bl i):=by unfold RT;rfl
theorem tK:RT w .br .br:=by unfold RT;rfl
theorem aap {i j pos}:TV G k X (.Constant (.int i) j pos) (mC (.int i)):=L6 YY λ_ _=>dU
theorem agW {i j pos}:TV G k X (.Constant (.bool i) j pos) (mC (.bl i)):=L6 afz λ_ _=>gJ
theorem aaq {i j pos}:TV G k X (.Constant (.str i) j pos) (mC (.str i)):=L6 Y0 λ_ _=>kG
theorem aar {j pos}:TV G k X (.Constant .none j pos) (mC .br):=L6 YZ λ_ _=>tK
theorem cV (hm:X.mg x=some (.int i tk))(hg:autoParam (Gl X x) zp_0)(hd:autoParam ((x == ("__debug__" : Str))=false) zp_1):TV G k X (.Name x pos) (mC (.int i)):=L6 (Qx (v:=.int i) hg hm ⟨_,rfl⟩ hd) λ_ _=>dU
noncomputable def ai (g:Tr->Tr->Cs->R Tr)(fa fb:Em):Em:=λτ S=>(fa τ S).aE λt1 S1=>(fb τ S1).aE λt2 S2=>g t1 t2 S2
noncomputable def mUn (g:Tr->Cs->R Tr)(fa:Em):Em:=λτ S=>(fa τ S).aE λt1 S1=>g t1 S1
noncomputable def r2 (G:Gx)(g:Tr->Tr->Cs->R Tr):R2:=λx y H Q=>∃w S t1 t2,HR G w S H/\RT w t1 x/\RT w t2 y/\bA RT G w (g t1 t2 S) Q
noncomputable def r1 (G:Gx)(g:Tr->Cs->R Tr):V->Hp->VK->Prop:=λx H Q=>∃w S t1,HR G w S H/\RT w t1 x/\bA RT G w (g t1 S) Q
theorem qd {g:Tr->Tr->Cs->R Tr}{σ:St}{H:Hp}{Q:VK}(h:fS G (ai g fa fb) σ H Q):tOp (r2 G g) (fS G fa) (fS G fb) σ H Q:=by
 obtain⟨w,S,τ,hr,sl,q⟩:=h;refine⟨w,S,τ,hr,sl,(bA.aE q).mono λx H1 cy=>?_⟩
 obtain⟨w1,S1,t1,dz,bN,r1,_,q1⟩:=cy;exact⟨w1,S1,τ,bN,sl.mono dz,(bA.aE q1).mono λy H2 dR=>by obtain⟨w2,S2,t2,fM,dQ,r2,_,q2⟩:=dR;exact⟨w2,S2,t1,t2,dQ,RT.mono fM _ _ r1,r2,q2⟩⟩
structure nv (G:Gx) (k:Nat) (f:Value->Value->Sem Value) (g:Tr->Tr->Cs->R Tr):Prop where
 kj:∀X:Cx,jy G k X->ki X f (r2 G g)
noncomputable instance {G:Gx}{k:Nat}{f:Value->Value->Sem Value}{g:Tr->Tr->Cs->R Tr}:CoeFun (nv G k f g) (λ_=>∀X:Cx,jy G k X->ki X f (r2 G g)):=⟨nv.kj⟩
theorem zv (ho:nv G k (binaryOp op) g)(ha:TV G k X a fa)(hb:TV G k X b fb):TV G k X (.BinOp a op b pos) (ai g fa fb):=.mk<|λo =>
 (afO (ho X o) (ha o) (hb o)).wk λ_ _ _ h=>qd h
theorem agX {op:UnaryOp}{g:Tr->Cs->R Tr}(ho:∀X:Cx,jy G k X->UnR X (unaryOp op) (r1 G g))(ha:TV G k X a fa):TV G k X (.UnaryOp op a pos) (mUn g fa):=.mk<|λo =>
 (afP (ho X o) (ha o)).wk λσ H Q h=>by
  obtain⟨w,S,τ,hr,sl,q⟩:=h;exact⟨w,S,τ,hr,sl,(bA.aE q).mono λx H1 fC=>by obtain⟨w1,S1,t1,dz,bN,r1,_,q1⟩:=fC;exact⟨w1,S1,t1,bN,r1,q1⟩⟩
theorem qf (ho:nv G k (compareOp op) g)(ha:TV G k X a fa)(hb:TV G k X b fb)(hm:behindInMarks op b=false):TV G k X (.Compare a [op] [b] pos) (ai g fa fb):=.mk<|λo =>
 (QL (ho X o) (ha o) (hb o) hm).wk λ_ _ _ h=>qd h
noncomputable def kH (g g':Tr->Tr->Cs->R Tr)(fa fb fc:Em):Em:=λτ S=>(fa τ S).aE λt1 S1=>(fb τ S1).aE λt2 S2=>(g t1 t2 S2).aE λz S3=>match z with
 |.bl true=>(fc τ S3).aE λt3 S4=>g' t2 t3 S4
 |.bl false=>.ok (.bl false) S3
 |_=>.aG
theorem Bd {g g':Tr->Tr->Cs->R Tr}{σ:St}{H:Hp}{Q:VK}(h:fS G (kH g g' fa fb fc) σ H Q):Dy (r2 G g) (r2 G g') (fS G fa) (fS G fb) (fS G fc) σ H Q:=by
 obtain⟨w,S,τ,hr,sl,q⟩:=h;refine⟨w,S,τ,hr,sl,(bA.aE q).mono λx H1 iU=>?_⟩
 obtain⟨w1,S1,t1,dz,bN,r1,_,q1⟩:=iU;refine⟨w1,S1,τ,bN,sl.mono dz,(bA.aE q1).mono λy H2 iV=>?_⟩
 obtain⟨w2,S2,t2,fM,dQ,r2,_,q2⟩:=iV;refine⟨w2,S2,t1,t2,dQ,RT.mono fM _ _ r1,r2,(bA.aE q2).mono λz H3 l6=>?_⟩
 obtain⟨w3,S3,t3,l8,qg,r3,_,q3⟩:=l6;split at q3
 ·unfold RT at r3
  subst r3;refine⟨true,rfl,A0 ⟨w3,S3,τ,qg,(sl.mono dz).mono (fM.trans l8),(bA.aE q3).mono λu H4 jN=>by obtain⟨w4,S4,t4,L7,Kl,r4,_,q4⟩:=jN;exact⟨w4,S4,t2,t4,Kl,RT.mono (l8.trans L7) _ _ r2,r4,q4⟩⟩⟩
 ·unfold RT at r3
  subst r3;exact⟨false,rfl,AZ (q3 w3 H3 _ (.refl _) qg gJ)⟩
 ·exact q3.elim
theorem L8 (ho:nv G k (compareOp op) g)(vW:nv G k (compareOp KP) g')(ha:TV G k X a fa)(hb:TV G k X b fb)(hc:TV G k X c fc)(hm:autoParam (lastMarks [op,KP] [b,c]=false) zp_5):
  TV G k X (.Compare a [op,KP] [b,c] pos) (kH g g' fa fb fc):=.mk<|λo=>(KO (ho X o) (vW X o) (ha o) (hb o) (hc o) hm).wk λ_ _ _ h=>Bd h
noncomputable def mB (f:Em):En->Cs->R Bool:=λτ S=>(f τ S).aE λt S1=>match t with|.bl b=>.ok b S1|_=>.aG
theorem rY {f:Em}{σ:St}{H:Hp}{Q:Bool->Hp->Prop}(h:Bb G (mB f) σ H Q):fS G f σ H λx H1=>∃c,x = .bl c/\Q c H1:=by
 obtain⟨w,S,τ,hr,sl,q⟩:=h;refine⟨w,S,τ,hr,sl,(bA.aE q).mono λx H1 jQ=>?_⟩
 obtain⟨w1,S1,t1,dz,bN,r1,_,q1⟩:=jQ;split at q1
 ·unfold RT at r1
  subst r1;exact⟨_,rfl,q1 w1 H1 _ (.refl _) bN rfl⟩
 ·exact q1.elim
theorem aas (h:TV G k X e f)(he:autoParam (∀sL,isTrue e X.env sL=(do let v <-sL;standAt e.pos;holding [v] (truthy v))) zp_3):Dg G k X e (mB f):=.mk<|λo=>(Y5 (h o) he).wk λ_ _ _ h=>rY h
theorem kI (ho:nv G k (compareOp op) g)(ha:TV G k X a fa)(hb:TV G k X b fb)(hm:behindInMarks op b=false):Dg G k X (.Compare a [op] [b] pos) (mB (ai g fa fb)):=.mk<|λo =>
 (QM (ho X o) (ha o) (hb o) hm).wk λ_ _ _ h=>qd (rY h)
theorem tL (ho:nv G k (compareOp op) g)(vW:nv G k (compareOp KP) g')(ha:TV G k X a fa)(hb:TV G k X b fb)(hc:TV G k X c fc)(hm:autoParam (lastMarks [op,KP] [b,c]=false) zp_5):
  Dg G k X (.Compare a [op,KP] [b,c] pos) (mB (kH g g' fa fb fc)):=.mk<|λo=>(KQ (ho X o) (vW X o) (ha o) (hb o) (hc o) hm).wk λ_ _ _ h=>Bd (rY h)
variable {ta tb:En->Cs->R Bool}{dc:List Expr}
noncomputable def l9 (ta tb:En->Cs->R Bool):En->Cs->R Bool:=λτ S=>(ta τ S).aE λx S1=>if x=true then tb τ S1 else .ok false S1
noncomputable def Dh (ta tb:En->Cs->R Bool):En->Cs->R Bool:=λτ S=>(ta τ S).aE λx S1=>if x=true then .ok true S1 else tb τ S1
noncomputable def rG (ta:En->Cs->R Bool):En->Cs->R Bool:=λτ S=>(ta τ S).aE λx S1=>.ok (!x) S1
theorem aat (ha:Dg G k X a ta):Dg G k X (.UnaryOp .Not a pos) (rG ta):=.mk<|λo=>(Y8 (ha o)).wk λσ H Q h=>by
 obtain⟨w,S,τ,hr,sl,q⟩:=h;refine⟨w,S,τ,hr,sl,(bA.aE q).mono λx H1 L_=>?_⟩
 obtain⟨w1,S1,t1,dz,bN,r1,_,q1⟩:=L_;subst r1;exact q1 w1 H1 _ (.refl _) bN rfl
theorem RV (ha:Dg G k X a ta):L4 G k X (.BoolOp .And [a] pos) ta:=.mk<|λo=>Qz (ha o)
theorem aau (ha:Dg G k X a ta):L4 G k X (.BoolOp .Or [a] pos) ta:=.mk<|λo=>Y6 (ha o)
theorem aav (ha:Dg G k X a ta)(hb:L4 G k X (.BoolOp .And (b::dc) pos) tb):L4 G k X (.BoolOp .And (a::b::dc) pos) (l9 ta tb):=.mk<|λo=>(Y7 (ha o) (hb o)).wk λσ H Q h=>by
 obtain⟨w,S,τ,hr,sl,q⟩:=h;refine⟨w,S,τ,hr,sl,(bA.aE q).mono λx H1 oS=>?_⟩
 obtain⟨w1,S1,t1,dz,bN,r1,_,q1⟩:=oS;subst r1;cases t1 with
 |true=>rw[if_pos rfl] at q1;exact A0 ⟨w1,S1,τ,bN,sl.mono dz,q1⟩
 |false=>rw[if_neg zal] at q1;exact AZ (q1 w1 H1 _ (.refl _) bN rfl)
theorem agY (ha:Dg G k X a ta)(hb:L4 G k X (.BoolOp .Or (b::dc) pos) tb):L4 G k X (.BoolOp .Or (a::b::dc) pos) (Dh ta tb):=.mk<|λo=>(afA (ha o) (hb o)).wk λσ H Q h=>by
 obtain⟨w,S,τ,hr,sl,q⟩:=h;refine⟨w,S,τ,hr,sl,(bA.aE q).mono λx H1 kJ=>?_⟩
 obtain⟨w1,S1,t1,dz,bN,r1,_,q1⟩:=kJ;subst r1;cases t1 with
 |true=>rw[if_pos rfl] at q1;exact A0 (q1 w1 H1 _ (.refl _) bN rfl)
 |false=>rw[if_neg zal] at q1;exact AZ ⟨w1,S1,τ,bN,sl.mono dz,q1⟩
theorem L4.t (h:L4 G k X e ta):Dg G k X e ta:=.mk<|λo=>(h o).pt
noncomputable def IT (fa fb:Em):Em:=λτ S=>(fa τ S).aE λt S1=>match t with|.bl true=>fb τ S1|.bl false=>.ok (.bl false) S1|_=>.aG
noncomputable def mOr (fa fb:Em):Em:=λτ S=>(fa τ S).aE λt S1=>match t with|.bl true=>.ok (.bl true) S1|.bl false=>fb τ S1|_=>.aG
noncomputable def Ma (fa:Em):Em:=λτ S=>(fa τ S).aE λt S1=>match t with|.bl b=>.ok (.bl (!b)) S1|_=>.aG
noncomputable def Di (ta:En->Cs->R Bool)(fa fb:Em):Em:=λτ S=>(ta τ S).aE λx S1=>if x=true then fa τ S1 else fb τ S1
theorem aaw {op}(h:TV G k X a fa):TV G k X (.BoolOp op [a] pos) fa:=.mk<|λo=>Y9 (h o)
theorem aax (ha:TV G k X a fa)(hb:TV G k X (.BoolOp .And (b::dc) pos) fb):TV G k X (.BoolOp .And (a::b::dc) pos) (IT fa fb):=.mk<|λo=>(Y_ (ha o) (hb o)).wk λσ H Q h=>by
 obtain⟨w,S,τ,hr,sl,q⟩:=h;refine⟨w,S,τ,hr,sl,(bA.aE q).mono λx H1 nM=>?_⟩
 obtain⟨w1,S1,t1,dz,bN,r1,_,q1⟩:=nM;split at q1
 ·unfold RT at r1;subst r1;exact⟨true,rfl,A0 ⟨w1,S1,τ,bN,sl.mono dz,q1⟩⟩
 ·unfold RT at r1;subst r1;exact⟨false,rfl,AZ (q1 w1 H1 _ (.refl _) bN gJ)⟩
 ·exact q1.elim
theorem agZ (ha:TV G k X a fa)(hb:TV G k X (.BoolOp .Or (b::dc) pos) fb):TV G k X (.BoolOp .Or (a::b::dc) pos) (mOr fa fb):=.mk<|λo=>(afD (ha o) (hb o)).wk λσ H Q h=>by
 obtain⟨w,S,τ,hr,sl,q⟩:=h;refine⟨w,S,τ,hr,sl,(bA.aE q).mono λx H1 iW=>?_⟩
 obtain⟨w1,S1,t1,dz,bN,r1,_,q1⟩:=iW;split at q1
 ·unfold RT at r1;subst r1;exact⟨true,rfl,A0 (q1 w1 H1 _ (.refl _) bN gJ)⟩
 ·unfold RT at r1;subst r1;exact⟨false,rfl,AZ ⟨w1,S1,τ,bN,sl.mono dz,q1⟩⟩
 ·exact q1.elim
theorem D4 (ha:TV G k X a fa):TV G k X (.UnaryOp .Not a pos) (Ma fa):=.mk<|λo=>(Za (ha o)).wk λσ H Q h=>by
 obtain⟨w,S,τ,hr,sl,q⟩:=h;refine⟨w,S,τ,hr,sl,(bA.aE q).mono λx H1 kK=>?_⟩
 obtain⟨w1,S1,t1,dz,bN,r1,_,q1⟩:=kK;split at q1
 ·unfold RT at r1;subst r1;exact⟨_,rfl,q1 w1 H1 _ (.refl _) bN gJ⟩
 ·exact q1.elim
theorem aay (hc:Dg G k X c ta)(ha:TV G k X a fa)(hb:TV G k X b fb):TV G k X (.IfExp c a b pos) (Di ta fa fb):=.mk<|λo=>(KC (hc o) (ha o) (hb o)).wk λσ H Q h=>by
 obtain⟨w,S,τ,hr,sl,q⟩:=h;refine⟨w,S,τ,hr,sl,(bA.aE q).mono λx H1 tM=>?_⟩
 obtain⟨w1,S1,t1,dz,bN,r1,_,q1⟩:=tM;subst r1;cases t1 with
 |true=>rw[if_pos rfl] at q1;exact A0 ⟨w1,S1,τ,bN,sl.mono dz,q1⟩
 |false=>rw[if_neg zal] at q1;exact AZ ⟨w1,S1,τ,bN,sl.mono dz,q1⟩
noncomputable def ak:En->Cs->R (List Tr):=λ_ S=>.ok [] S
noncomputable def af (f:Em)(r:En->Cs->R (List Tr)):En->Cs->R (List Tr):=λτ S=>(f τ S).aE λt S1=>(r τ S1).aE λts S2=>.ok (t::ts) S2
theorem aaz:we G k X [] ak:=.mk<|λ_=>DE.wk λσ H Q h=>by
 obtain⟨w,S,τ,hr,sl,q⟩:=h;exact q w H [] (.refl w) hr .nil
theorem RW (ha:TV G k X e f)(hr:we G k X es fr)(hs:autoParam (dN e=false) zp_0):we G k X (e::es) (af f fr):=.mk<|λo=>(oA (ha o) (hr o) (dF hs)).wk λσ H Q h=>by
 obtain⟨w,S,τ,hr,sl,q⟩:=h;refine⟨w,S,τ,hr,sl,(bA.aE q).mono λx H1 tN=>?_⟩
 obtain⟨w1,S1,t1,dz,bN,r1,_,q1⟩:=tN;refine⟨w1,S1,τ,bN,sl.mono dz,(bA.aE q1).mono λxs H2 D5=>?_⟩
 obtain⟨w2,S2,ts,fM,dQ,r2,_,q2⟩:=D5;exact q2 w2 H2 _ (.refl _) dQ (.cons (RT.mono fM _ _ r1) r2)
noncomputable def cK (fr:En->Cs->R (List Tr)):Em:=λτ S=>(fr τ S).aE λts S1=>if ts.length<=sizeLine then .ok (.tp ts) S1 else .aG
noncomputable def ig (fr:En->Cs->R (List Tr)):Em:=λτ S=>(fr τ S).aE λts S1=>if ts.length<=sizeLine then .ok (.ls ts) S1 else .aG
noncomputable def oU (fr:En->Cs->R (List Tr)):Em:=λτ S=>(fr τ S).aE λts S1=>if ts.length<=sizeLine then .ok (.hd S1.length) (S1++[.bM ts]) else .aG
theorem HR.aaA {w:Wd}{S:Cs}{H:Hp}{ts:List Tr}{xs:List V}(hr:HR G w S H)(r:bJ w ts xs){Q:VK}{S':Cs}(hS:S'=S)(q:bA RT G w (.ok (.tp ts) S') Q):∀p,H p=none->Q (.ref p) (bF H p (.gE xs)):=λp hp=>by
 subst hS;obtain⟨h2,le⟩:=hr.lay hp (.gE xs)
 refine q _ _ _ le h2 ?_
 unfold RT;exact⟨p,xs,rfl,ay,bJ.mono le _ _ r⟩
theorem HR.jz {w:Wd}{S:Cs}{H:Hp}{ts:List Tr}{xs:List V}(hr:HR G w S H)(r:bJ w ts xs){Q:VK}{S':Cs}(hS:S'=S)(q:bA RT G w (.ok (.ls ts) S') Q):∀p,H p=none->Q (.ref p) (bF H p (.bM xs)):=λp hp=>by
 subst hS;obtain⟨h2,le⟩:=hr.lay hp (.bM xs)
 refine q _ _ _ le h2 ?_
 unfold RT;exact⟨p,xs,rfl,ay,bJ.mono le _ _ r⟩
theorem HR.ag0 {w:Wd}{S:Cs}{H:Hp}{ts:List Tr}{xs:List V}(hr:HR G w S H)(r:bJ w ts xs){Q:VK}{S':Cs}{n:Nat}(hS:S'=S++[.bM ts])(hn:n=S.length)(q:bA RT G w (.ok (.hd n) S') Q):∀p,H p=none->Q (.ref p) (bF H p (.bM xs)):=λp hp=>by
 subst hS hn;obtain⟨h2,le⟩:=hr.IQ (c:=.bM ts) hp (o:=.bM xs) rfl ⟨xs,ay,bJ.mono (w.tH p) _ _ r⟩
 refine q _ _ _ le h2 ?_
 unfold RT;refine⟨by rw[<-hr.n];exact zbi _,?_⟩
 show V.ref p=V.ref (if S.length=w.n then p else w.ρ S.length)
 rw[if_pos hr.n.symm]
theorem aaB {x1}(h:we G k X es fr):TV G k X (.Tuple es x1 pos) (cK fr):=.mk<|λo=>(Zx (h o)).wk λσ H Q h=>by
 obtain⟨w,S,τ,hr,sl,q⟩:=h;refine⟨w,S,τ,hr,sl,(bA.aE q).mono λxs H1 tO=>?_⟩
 obtain⟨w1,S1,ts,dz,bN,r1,_,q1⟩:=tO;split at q1
 ·exact⟨by rw[r1.len];assumption,bN.aaA r1 rfl q1⟩
 ·exact q1.elim
theorem aaC (h:we G k X es fr):TV G k X (.List es pos) (ig fr):=.mk<|λo=>(KZ (h o)).wk λσ H Q h=>by
 obtain⟨w,S,τ,hr,sl,q⟩:=h;refine⟨w,S,τ,hr,sl,(bA.aE q).mono λxs H1 D7=>?_⟩
 obtain⟨w1,S1,ts,dz,bN,r1,_,q1⟩:=D7;split at q1
 ·exact⟨by rw[r1.len];assumption,bN.jz r1 rfl q1⟩
 ·exact q1.elim
theorem RX (h:we G k X es fr):TV G k X (.List es pos) (oU fr):=.mk<|λo=>(KZ (h o)).wk λσ H Q h=>by
 obtain⟨w,S,τ,hr,sl,q⟩:=h;refine⟨w,S,τ,hr,sl,(bA.aE q).mono λxs H1 aaD=>?_⟩
 obtain⟨w1,S1,ts,dz,bN,r1,_,q1⟩:=aaD;split at q1
 ·exact⟨by rw[r1.len];assumption,bN.ag0 r1 rfl rfl q1⟩
 ·exact q1.elim
end
noncomputable def cL (S:Cs)(n:Nat):Option (List Tr):=match S[n]? with|some (.bM l)=>some l|_=>none
noncomputable def tP (S:Cs)(n:Nat):Option (List (dI×Tr)):=match S[n]? with|some (.jn l)=>some l|_=>none
noncomputable def iC (S:Cs)(n:Nat):Option (Str×List (Str×Tr)):=match S[n]? with|some (.dZ c l)=>some (c,l)|_=>none
theorem dh (h:cL S n=some l):S[n]? = some (.bM l):=by
 unfold cL at h;split at h
 ·cases h;assumption
 ·cases h
theorem gO (h:tP S n=some l):S[n]? = some (.jn l):=by
 unfold tP at h;split at h
 ·cases h;assumption
 ·cases h
theorem fE (h:iC S n=some (c,l)):S[n]? = some (.dZ c l):=by
 unfold iC at h;split at h
 ·cases h;assumption
 ·cases h
noncomputable def Be (S:Cs):Tr->Option (List Tr)
 |.ls l=>some l
 |.hd n=>cL S n
 |_=>none
noncomputable def Gb (S:Cs):Tr->Option (List Tr)
 |.ls l=>some l
 |.kl l=>some l
 |.hd n=>cL S n
 |_=>none
noncomputable def Vu:Tr->Option (List Tr)
 |.tp l=>some l
 |.kt l=>some l
 |_=>none
noncomputable def Bf (S:Cs):Tr->Option (List Tr)
 |.tp l=>some l
 |.kt l=>some l
 |.ls l=>some l
 |.kl l=>some l
 |.hd n=>cL S n
 |_=>none
noncomputable def Qm (S:Cs):Tr->Option (List (dI×Tr))
 |.hd n=>tP S n
 |_=>none
theorem RT.cY (r:RT w (.hd n) v):n<w.n/\v = .ref (w.ρ n):=by unfold RT at r;exact r
theorem l_ (hr:HR G w S H)(r:RT w t v)(e:Be S t=some l):∃a xs,v = .ref a/\H a=some (.bM xs)/\bJ w l xs:=by
 cases t with
 |ls m =>
  cases e;unfold RT at r;obtain⟨a,xs,rfl,h,r⟩:=r;exact⟨a,xs,rfl,hr.sub _ _ h,r⟩
 |hd n =>
  obtain⟨xs,h1,h2⟩:=hr.cell n _ (dh e)
  exact⟨_,xs,r.cY.2,h1,h2⟩
 |_=>cases e
theorem mh (hr:HR G w S H)(r:RT w t v)(e:Gb S t=some l):∃a xs,v = .ref a/\jk G.K H a xs/\bJ w l xs:=by
 cases t with
 |ls m =>
  cases e;unfold RT at r;obtain⟨a,xs,rfl,h,r⟩:=r;exact⟨a,xs,rfl,jk.of (hr.sub _ _ h),r⟩
 |kl m =>
  cases e;unfold RT at r;obtain⟨a,xs,rfl,h,r⟩:=r;exact⟨a,xs,rfl,hr.sqL h,r⟩
 |hd n =>
  obtain⟨xs,h1,h2⟩:=hr.cell n _ (dh e)
  exact⟨_,xs,r.cY.2,jk.of h1,h2⟩
 |_=>cases e
theorem mj (hr:HR G w S H)(r:RT w t v)(e:Vu t=some l):∃a xs,v = .ref a/\nI G.K H a xs/\bJ w l xs:=by
 cases t with
 |tp m =>
  cases e;unfold RT at r;obtain⟨a,xs,rfl,h,r⟩:=r;exact⟨a,xs,rfl,nI.of (hr.sub _ _ h),r⟩
 |kt m =>
  cases e;unfold RT at r;obtain⟨a,xs,rfl,h,r⟩:=r;exact⟨a,xs,rfl,hr.sqT h,r⟩
 |_=>cases e
theorem zw (hr:HR G w S H)(r:RT w t v)(e:Bf S t=some l):∃a xs,v = .ref a/\(jk G.K H a xs\/nI G.K H a xs)/\bJ w l xs:=by
 cases t with
 |ls m=>obtain⟨a,xs,h1,h2,h3⟩:=mh hr r (l:=l) (e);exact⟨a,xs,h1,.inl h2,h3⟩
 |kl m=>obtain⟨a,xs,h1,h2,h3⟩:=mh hr r (l:=l) (e);exact⟨a,xs,h1,.inl h2,h3⟩
 |hd n=>obtain⟨a,xs,h1,h2,h3⟩:=mh hr r (l:=l) (e);exact⟨a,xs,h1,.inl h2,h3⟩
 |tp m=>obtain⟨a,xs,h1,h2,h3⟩:=mj hr r (l:=l) (e);exact⟨a,xs,h1,.inr h2,h3⟩
 |kt m=>obtain⟨a,xs,h1,h2,h3⟩:=mj hr r (l:=l) (e);exact⟨a,xs,h1,.inr h2,h3⟩
 |_=>cases e
theorem zx (hr:HR G w S H)(r:RT w t v)(e:Qm S t=some m):∃n aO,t = .hd n/\S[n]? = some (.jn m)/\v = .ref (w.ρ n)/\H (w.ρ n)=some (.dK aO)/\RK w m aO:=by
 cases t with
 |hd n =>
  obtain⟨xs,h1,h2⟩:=hr.cell n _ (gO e)
  exact⟨n,xs,rfl,gO e,r.cY.2,h1,h2⟩
 |_=>cases e
theorem bJ.iz (h:bJ w l xs)(e:L2.iz l i=some t):∃v,L2.iz xs i=some v/\RT w t v:=by
 unfold L2.iz at e ⊢
 rw[h.len];cases q:AA l.length i with
 |none=>rw[q] at e;cases e
 |some j=>rw[q] at e;exact h.get e
noncomputable def bS:Tr->Tr->Cs->R Tr:=λt1 t2 S=>match t1,t2 with
 |.int i,.int j=>.ok (.int (i+j)) S
 |.str a,.str b=>if a.length+b.length<=sizeLine then .ok (.str (a++b)) S else .aG
 |.tp a,.tp b=>if a.isEmpty=false/\a.length+b.length<=sizeLine then .ok (.tp (a++b)) S else .aG
 |t1,t2=>match Be S t1,Be S t2 with
  |some a,some b=>if a.length+b.length<=sizeLine then .ok (.ls (a++b)) S else .aG
  |_,_=>.aG
noncomputable def mq:Tr->Tr->Cs->R Tr:=λt1 t2 S=>match Be S t1,Be S t2 with
  |some a,some b=>if a.length+b.length<=sizeLine then .ok (.hd S.length) (S++[.bM (a++b)]) else .aG
  |_,_=>.aG
noncomputable def gI (g:Int->Int->Tr):Tr->Tr->Cs->R Tr:=λt1 t2 S=>match t1,t2 with
 |.int i,.int j=>.ok (g i j) S
 |_,_=>.aG
noncomputable def IU (c:Int->Int->Bool)(g:Int->Int->Tr):Tr->Tr->Cs->R Tr:=λt1 t2 S=>match t1,t2 with
 |.int i,.int j=>if c i j=true then .ok (g i j) S else .aG
 |_,_=>.aG
noncomputable abbrev dO:=gI λi j=>.int (i - j)
noncomputable abbrev RY:=IU (λ_ j=>decide (0<j/\j<1073741824)) λi j=>.int (i / j)
noncomputable abbrev oV:=IU (λ_ j=>decide (0<j)) λi j=>.int (i % j)
noncomputable def oW:Tr->Tr->Cs->R Tr:=λt1 t2 S=>match t1,t2 with
 |.int i,.int j=>wc ((-(2 ^ 64)<i/\i<2 ^ 64)\/(-(2 ^ 64)<j/\j<2 ^ 64)) (.ok (.int (i * j)) S) .aG
 |.str a,.int n=>if 0<=n/\n<1000000/\a.length * n.toNat<=1000000 then .ok (.str (sZ a n.toNat)) S else .aG
 |_,_=>.aG
noncomputable abbrev Dk:=gI λi j=>.bl (decide (i<j))
noncomputable abbrev Vv:=gI λi j=>.bl (decide (i<=j))
noncomputable abbrev D8:=gI λi j=>.bl (decide (j<i))
noncomputable abbrev gGe:=gI λi j=>.bl (decide (j<=i))
noncomputable def D9:Tr->Cs->R Tr:=λt S=>match t with|.int i=>.ok (.int (-i)) S|_=>.aG
theorem bh (r:RT w (.int i) v):v = .int i:=by unfold RT at r;exact r
theorem cg (r:RT w (.str i) v):v = .str i:=by unfold RT at r;exact r
theorem mW (r:RT w (.bl i) v):v = .bl i:=by unfold RT at r;exact r
theorem iX (r:RT w .br v):v = .br:=by unfold RT at r;exact r
theorem Bg (h:∀X:Cx,jy G k X->ki X f (QH gv))(rg:∀(w:Wd) i j,RT w (g i j) (gv i j)):nv G k f (gI g):=.mk<|λX o ah s σ H x y v u Q I rx ry cy=>by
 obtain⟨w,S,t1,t2,hr,r1,r2,q⟩:=cy;unfold gI at q;split at q
 ·exact h X o ah s σ H x y v u Q I rx ry ⟨_,_,bh r1,bh r2,q w H _ (.refl w) hr (rg _ _ _)⟩
 ·exact q.elim
theorem Mb (h:∀X:Cx,jy G k X->ki X f (rI C gv))(hc:∀i j,c i j=true->C i j)(rg:∀(w:Wd) i j,RT w (g i j) (gv i j)):nv G k f (IU c g):=.mk<|λX o ah s σ H x y v u Q I rx ry dR=>by
 obtain⟨w,S,t1,t2,hr,r1,r2,q⟩:=dR;unfold IU at q;split at q
 ·split at q
  ·exact h X o ah s σ H x y v u Q I rx ry ⟨_,_,bh r1,bh r2,hc _ _ (by assumption),q w H _ (.refl w) hr (rg _ _ _)⟩
  ·exact q.elim
 ·exact q.elim
theorem ag2:nv G k (binaryOp .Sub) dO:=Bg (λX _=>Zo) λ_ _ _=>dU
theorem ag3:nv G k (binaryOp .FloorDiv) RY:=Mb (λX _=>QJ) (λi j h=>(of_decide_eq_true h:0<j/\j<1073741824)) λ_ _ _=>dU
theorem ag4:nv G k (binaryOp .Mod) oV:=Mb (λX _=>Zq) (λi j h=>of_decide_eq_true h) λ_ _ _=>dU
theorem IV:nv G k (compareOp .Lt) Dk:=Bg (λX _=>afT) λ_ _ _=>gJ
theorem IW:nv G k (compareOp .LtE) Vv:=Bg (λX _=>afU) λ_ _ _=>gJ
theorem ag5:nv G k (compareOp .Gt) D8:=Bg (λX _=>afV) λ_ _ _=>gJ
theorem ag6:nv G k (compareOp .GtE) gGe:=Bg (λX _=>afW) λ_ _ _=>gJ
theorem ag7:nv G k (binaryOp .Mult) oW:=.mk<|λX o ah s σ H x y v u Q I rx ry fC=>by
 obtain⟨w,S,t1,t2,hr,r1,r2,q⟩:=fC;unfold oW at q;split at q
 ·unfold wc at q
  split at q
  ·exact Zp ah s σ H x y v u Q I rx ry ⟨_,_,bh r1,bh r2,(by assumption),q w H _ (.refl w) hr dU⟩
  ·exact q.elim
 ·split at q
  ·rename_i h
   exact DR ah s σ H x y v u Q I rx ry ⟨_,_,cg r1,bh r2,h.1,h.2.1,h.2.2,q w H _ (.refl w) hr kG⟩
  ·exact q.elim
 ·exact q.elim
theorem ag8:nv G k (binaryOp .Add) bS:=.mk<|λX o ah s σ H x y v u Q I rx ry iU=>by
 obtain⟨w,S,t1,t2,hr,r1,r2,q⟩:=iU;unfold bS at q;split at q
 ·exact Zn ah s σ H x y v u Q I rx ry ⟨_,_,bh r1,bh r2,q w H _ (.refl w) hr dU⟩
 ·split at q
  ·exact Dz ah s σ H x y v u Q I rx ry ⟨_,_,cg r1,cg r2,(by assumption),q w H _ (.refl w) hr kG⟩
  ·exact q.elim
 ·split at q
  ·rename_i a b h
   obtain⟨p,xs,e1,s1,R1⟩:=mj hr r1 (l:=a) rfl
   obtain⟨p2,ys,e2,s2,R2⟩:=mj hr r2 (l:=b) rfl
   rw[<-o.K] at s1 s2;refine Rb ah s σ H x y v u Q I rx ry ⟨p,p2,xs,ys,e1,e2,s1,s2,?_,by rw[R1.len,R2.len];exact h.2,λz=>?_,λz=>hr.aaA (R1.rW R2) rfl q⟩
   ·intro z
    have:=R1.len
    rw[z] at this;have h1:=h.1;cases a with
    |nil=>simp at h1
    |cons _ _=>simp at this
   ·have hb:b=[]:=by
     have:=R2.len
     rw[z] at this;cases b with
     |nil=>rfl
     |cons _ _=>simp at this
    subst hb;rw[zaw] at q;rw[<-e1];exact q w H _ (.refl w) hr r1
  ·exact q.elim
 ·split at q
  ·rename_i a b ea eb
   split at q
   ·obtain⟨p,xs,e1,s1,R1⟩:=l_ hr r1 ea
    obtain⟨p2,ys,e2,s2,R2⟩:=l_ hr r2 eb;exact Li ah s σ H x y v u Q I rx ry ⟨p,p2,xs,ys,e1,e2,s1,s2,by rw[R1.len,R2.len];assumption,hr.jz (R1.rW R2) rfl q⟩
   ·exact q.elim
  ·exact q.elim
theorem D_:nv G k (binaryOp .Add) mq:=.mk<|λX o ah s σ H x y v u Q I rx ry iV=>by
 obtain⟨w,S,t1,t2,hr,r1,r2,q⟩:=iV;unfold mq at q;split at q
 ·rename_i a b ea eb
  split at q
  ·obtain⟨p,xs,e1,s1,R1⟩:=l_ hr r1 ea
   obtain⟨p2,ys,e2,s2,R2⟩:=l_ hr r2 eb;exact Li ah s σ H x y v u Q I rx ry ⟨p,p2,xs,ys,e1,e2,s1,s2,by rw[R1.len,R2.len];assumption,hr.ag0 (R1.rW R2) rfl rfl q⟩
  ·exact q.elim
 ·exact q.elim
theorem ag9:∀X:Cx,jy G k X->UnR X (unaryOp .USub) (r1 G D9):=λX o ah s σ H x v Q I rx l6=>by
 obtain⟨w,S,t1,hr,r1,q⟩:=l6;unfold D9 at q;split at q
 ·exact Zr ah s σ H x v Q I rx ⟨_,bh r1,q w H _ (.refl w) hr dU⟩
 ·exact q.elim
noncomputable def IX:Tr->Tr->Option Bool
 |.int i,.int j=>some (decide (i=j))
 |.str i,.str j=>some (decide (i=j))
 |.bl i,.bl j=>some (i == j)
 |.br,.br=>some true
 |.br,.int _=>some false
 |.int _,.br=>some false
 |.br,.bl _=>some false
 |.bl _,.br=>some false
 |.br,.str _=>some false
 |.str _,.br=>some false
 |.int _,.str _=>some false
 |.str _,.int _=>some false
 |.bl _,.str _=>some false
 |.str _,.bl _=>some false
 |_,_=>none
mutual
noncomputable def Tr.lQ:Tr->Bool
 |.tp l=>Tr.jA l
 |.ls l=>Tr.jA l
 |.kt _=>false
 |.kl _=>false
 |.hd _=>false
 |_=>true
noncomputable def Tr.jA:List Tr->Bool
 |[]=>true
 |t::l=>Tr.lQ t && Tr.jA l
end
mutual
noncomputable def Tr.dp:Tr->Nat
 |.tp l=>Tr.pR l+1
 |.ls l=>Tr.pR l+1
 |_=>0
noncomputable def Tr.pR:List Tr->Nat
 |[]=>0
 |t::l=>max (Tr.dp t) (Tr.pR l)
end
mutual
noncomputable def Tr.dv:Tr->DV
 |.tp l=>.tp (Tr.Km l)
 |.ls l=>.ls (Tr.Km l)
 |.int i=>.fl (.int i)
 |.bl i=>.fl (.bl i)
 |.str i=>.fl (.str i)
 |_=>.fl .br
noncomputable def Tr.Km:List Tr->List DV
 |[]=>[]
 |t::l=>Tr.dv t::Tr.Km l
end
mutual
theorem Tr.zy:∀t:Tr,DV.wV t.dv=t.dp
 |.tp l=>by unfold Tr.dv Tr.dp DV.wV;rw[Tr.zz l]
 |.ls l=>by unfold Tr.dv Tr.dp DV.wV;rw[Tr.zz l]
 |.int _=>by unfold Tr.dv Tr.dp DV.wV;rfl
 |.bl _=>by unfold Tr.dv Tr.dp DV.wV;rfl
 |.str _=>by unfold Tr.dv Tr.dp DV.wV;rfl
 |.br=>by unfold Tr.dv Tr.dp DV.wV;rfl
 |.kt _=>by unfold Tr.dv Tr.dp DV.wV;rfl
 |.kl _=>by unfold Tr.dv Tr.dp DV.wV;rfl
 |.hd _=>by unfold Tr.dv Tr.dp DV.wV;rfl
theorem Tr.zz:∀l:List Tr,DV.A8 (Tr.Km l)=Tr.pR l
 |[]=>by unfold Tr.Km Tr.pR DV.A8;rfl
 |t::l=>by unfold Tr.Km Tr.pR DV.A8;rw[Tr.zy t,Tr.zz l]
end
noncomputable def vw:Nat->Cs->Tr->Tr
 |n+1,S,.hd i=>(match cL S i with|some l=>.ls (l.map (vw n S))|none=>.hd i)
 |n+1,S,.ls l=>.ls (l.map (vw n S))
 |n+1,S,.kl l=>.ls (l.map (vw n S))
 |n+1,S,.tp l=>.tp (l.map (vw n S))
 |n+1,S,.kt l=>.tp (l.map (vw n S))
 |_,_,t=>t
section
variable {G:Gx}{w:Wd}{S:Cs}{H:Hp}
theorem jR (hg:∀t v,RT w t v->(g t).lQ=true->g8 G.K H (g t).dv v):∀{l:List Tr} {xs:List V},bJ w l xs->Tr.jA (l.map g)=true->jO G.K H (Tr.Km (l.map g)) xs
 |[],xs,h,_=>by rw[h.cC];unfold List.map Tr.Km jO;rfl
 |t::l,xs,h,n=>by
  obtain⟨x,r,rfl,h1,h2⟩:=h.bE;simp only[zas] at n ⊢
  unfold Tr.jA at n;unfold Tr.Km jO;have n:=zbf.mp n;exact⟨x,r,rfl,hg t x h1 n.1,jR hg h2 n.2⟩
mutual
theorem jS (hr:HR G w S H):∀(t:Tr) (v:V),RT w t v->t.lQ=true->g8 G.K H t.dv v
 |.tp l,v,r,n=>by
  unfold RT at r;unfold Tr.lQ at n;unfold Tr.dv g8
  obtain⟨a,xs,e,h,r⟩:=r;exact⟨a,xs,e,nI.of (hr.sub _ _ h),qh hr l xs r n⟩
 |.ls l,v,r,n=>by
  unfold RT at r;unfold Tr.lQ at n;unfold Tr.dv g8
  obtain⟨a,xs,e,h,r⟩:=r;exact⟨a,xs,e,jk.of (hr.sub _ _ h),qh hr l xs r n⟩
 |.int _,v,r,n=>by unfold Tr.dv g8;exact⟨bh r,rfl⟩
 |.bl _,v,r,n=>by unfold Tr.dv g8;exact⟨mW r,rfl⟩
 |.str _,v,r,n=>by unfold Tr.dv g8;exact⟨cg r,rfl⟩
 |.br,v,r,n=>by unfold Tr.dv g8;exact⟨iX r,rfl⟩
 |.kt _,v,r,n=>by unfold Tr.lQ at n;cases n
 |.kl _,v,r,n=>by unfold Tr.lQ at n;cases n
 |.hd _,v,r,n=>by unfold Tr.lQ at n;cases n
theorem qh (hr:HR G w S H):∀(l:List Tr) (xs:List V),bJ w l xs->Tr.jA l=true->jO G.K H (Tr.Km l) xs
 |[],xs,r,n=>by unfold Tr.Km jO;exact r.cC
 |t::l,xs,r,n=>by
  obtain⟨x,r',rfl,h1,h2⟩:=r.bE;unfold Tr.jA at n;unfold Tr.Km jO;have n:=zbf.mp n;exact⟨x,r',rfl,jS hr t x h1 n.1,qh hr l r' h2 n.2⟩
end
theorem kL (hr:HR G w S H):∀(n:Nat) (t:Tr) (v:V),RT w t v->(vw n S t).lQ=true->g8 G.K H (vw n S t).dv v
 |0,t,v,r,n=>by unfold vw at n ⊢;exact jS hr t v r n
 |m+1,t,v,r,n=>by
  cases t with
  |hd i =>
   unfold vw at n ⊢
   split at n
   ·rename_i l e
    unfold Tr.lQ at n;obtain⟨xs,h1,h2⟩:=hr.cell i _ (dh e)
    rw[r.cY.2];unfold Tr.dv g8;exact⟨_,xs,rfl,jk.of h1,jR (kL hr m) h2 n⟩
   ·unfold Tr.lQ at n;cases n
  |ls l =>
   unfold vw at n ⊢
   unfold Tr.lQ at n;unfold RT at r;obtain⟨a,xs,e,h,r⟩:=r;unfold Tr.dv g8;exact⟨a,xs,e,jk.of (hr.sub _ _ h),jR (kL hr m) r n⟩
  |kl l =>
   unfold vw at n ⊢
   unfold Tr.lQ at n;unfold RT at r;obtain⟨a,xs,e,h,r⟩:=r;unfold Tr.dv g8;exact⟨a,xs,e,hr.sqL h,jR (kL hr m) r n⟩
  |tp l =>
   unfold vw at n ⊢
   unfold Tr.lQ at n;unfold RT at r;obtain⟨a,xs,e,h,r⟩:=r;unfold Tr.dv g8;exact⟨a,xs,e,nI.of (hr.sub _ _ h),jR (kL hr m) r n⟩
  |kt l =>
   unfold vw at n ⊢
   unfold Tr.lQ at n;unfold RT at r;obtain⟨a,xs,e,h,r⟩:=r;unfold Tr.dv g8;exact⟨a,xs,e,hr.sqT h,jR (kL hr m) r n⟩
  |br=>unfold vw at n ⊢;exact jS hr _ v r n
  |int=>unfold vw at n ⊢;exact jS hr _ v r n
  |bl=>unfold vw at n ⊢;exact jS hr _ v r n
  |str=>unfold vw at n ⊢;exact jS hr _ v r n
end
open Classical in
noncomputable def cR (neg:Bool):Tr->Tr->Cs->R Tr:=λt1 t2 S=>match IX t1 t2 with
 |some b=>.ok (.bl (if neg then !b else b)) S
 |none=>if vw 6 S t1=vw 6 S t2/\(vw 6 S t1).lQ=true/\(vw 6 S t1).dp<=50/\(vw 6 S t1).dp≠0 then .ok (.bl (!neg)) S else .aG
theorem RZ (h:IX t1 t2=some b)(r1:RT w t1 x)(r2:RT w t2 y):Zs x y=true/\decide (x=y)=b:=by
 unfold IX at h;split at h<;>(first | (cases h;done)|skip)<;>(unfold RT at r1 r2;subst r1;subst r2;cases h;first|exact⟨rfl,Dw⟩|exact⟨rfl,by simp⟩|exact⟨rfl,by rw[zbg];simp⟩)
theorem Mc:nv G k (compareOp (if neg then .NotEq else .Eq)) (cR neg):=.mk<|λX o ah s σ H x y v u Q I rx ry jN=>by
 obtain⟨w,S,t1,t2,hr,r1,r2,q⟩:=jN;unfold cR at q;split at q
 ·rename_i b e
  obtain⟨h1,h2⟩:=RZ e r1 r2;have q:=q w H _ (.refl w) hr gJ
  cases neg with
  |true=>exact afS ah s σ H x y v u Q I rx ry ⟨h1,by rw[h2];exact q⟩
  |false=>exact afR ah s σ H x y v u Q I rx ry ⟨h1,by rw[h2];exact q⟩
 ·split at q
  ·rename_i h
   obtain⟨e1,e2,e3,e4⟩:=h;have d1:=kL hr 6 t1 x r1 e2;have d2:=kL hr 6 t2 y r2 (by rw[<-e1];exact e2)
   rw[<-e1] at d2;rw[<-o.K] at d1 d2;have q:=q w H _ (.refl w) hr gJ
   have hn:∀z,(vw 6 S t1).dv ≠ .fl z:=λz hz=>e4 (by rw[<-Tr.zy,hz];unfold DV.wV;rfl)
   cases neg with
   |true=>exact aab o.hu ah s σ H x y v u Q I rx ry ⟨_,by rw[Tr.zy];exact e3,hn,d1,d2,q⟩
   |false=>exact aaa o.hu ah s σ H x y v u Q I rx ry ⟨_,by rw[Tr.zy];exact e3,hn,d1,d2,q⟩
  ·exact q.elim
theorem aha:nv G k (compareOp .Eq) (cR false):=Mc (neg:=false)
theorem ahb:nv G k (compareOp .NotEq) (cR true):=Mc (neg:=true)
noncomputable def isN:Tr->Bool|.br=>true|_=>false
noncomputable def jh (neg:Bool):Tr->Tr->Cs->R Tr:=λt1 t2 S=>match t2 with
 |.br=>.ok (.bl (if neg then !isN t1 else isN t1)) S
 |_=>.aG
theorem Me (r:RT w t x):decide (x=V.br)=isN t:=by
 cases t<;>unfold RT at r<;>(first | (subst r;rfl) | (obtain⟨a,xs,rfl,_⟩:=r;rfl) | (rw[r.2];rfl))
theorem Vw:nv G k (compareOp (if neg then .IsNot else .Is)) (jh neg):=.mk<|λX o ah s σ H x y v u Q I rx ry jQ=>by
 obtain⟨w,S,t1,t2,hr,r1,r2,q⟩:=jQ;unfold jh at q;split at q
 ·have q:=q w H _ (.refl w) hr gJ
  cases neg with
  |true=>exact QK ah s σ H x y v u Q I rx ry ⟨iX r2,by rw[Me r1];exact q⟩
  |false=>exact Zt ah s σ H x y v u Q I rx ry ⟨iX r2,by rw[Me r1];exact q⟩
 ·exact q.elim
theorem ahc:nv G k (compareOp .Is) (jh false):=Vw (neg:=false)
theorem Gd:nv G k (compareOp .IsNot) (jh true):=Vw (neg:=true)
noncomputable def jo:Tr->Option dI|.int i=>some (.inl i)|.str x=>some (.inr x)|_=>none
noncomputable def aV {κ:Type}[DecidableEq κ](k:κ):List (κ × Tr)->Option Tr
 |[]=>none
 | (j,t)::r=>if j=k then some t else aV k r
noncomputable def lA {κ:Type}[DecidableEq κ](l:List (κ × Tr))(k:κ)(t:Tr):List (κ × Tr):=
 if (l.any λkv=>decide (kv.1=k))=true then l.map (λkv=>if kv.1=k then (kv.1,t) else kv) else l++[(k,t)]
noncomputable def bY (f:Str)(v:Tr):List (Str×Tr)->List (Str×Tr)
 |[]=>[(f,v)]
 | (g,x)::r=>if g=f then (g,v)::r else (g,x)::bY f v r
noncomputable def fN (aO jx:List (dI×Tr)):List (dI×Tr):=jx.foldl (λcA kv=>lA cA kv.1 kv.2) aO
section
variable {w:Wd}{κ:Type}[DecidableEq κ]
theorem oX:∀{l:List (κ × Tr)} {m:List (κ × V)} {k:κ},RK w l m->(∀t,aV k l=some t->∃v,lM m k=some v/\RT w t v)/\(aV k l=none->lM m k=none)
 |[],m,k,h=>by rw[h.cC];exact⟨λt e=>(by cases e),λ_=>rfl⟩
 | (j,t)::l,m,k,h=>by
  obtain⟨v,r,rfl,h1,h2⟩:=h.bE;unfold aV;by_cases e:j=k
  ·rw[if_pos e,oE (p:=(j,v)) e]
   exact⟨λu z=>by cases z;exact⟨v,rfl,h1⟩,λz=>by cases z⟩
  ·rw[if_neg e,oF (p:=(j,v)) e]
   exact oX h2
theorem gp:∀{l:List (Str×Tr)} {m:List (Str×V)} {k:Str},RK w l m->(∀t,aV k l=some t->∃v,m.lookup k=some v/\RT w t v)/\(aV k l=none->m.lookup k=none)
 |[],m,k,h=>by rw[h.cC];exact⟨λt e=>(by cases e),λ_=>rfl⟩
 | (j,t)::l,m,k,h=>by
  obtain⟨v,r,rfl,h1,h2⟩:=h.bE;unfold aV;by_cases e:j=k
  ·subst e
   rw[if_pos rfl,List.lookup_cons_self];exact⟨λu z=>by cases z;exact⟨v,rfl,h1⟩,λz=>by cases z⟩
  ·have hb:(k == j)=false:=beq_eq_false_iff_ne.mpr λz=>e z.symm
   rw[if_neg e,zaP,hb];exact gp h2
theorem RK.DI (h:RK w l m)(k:κ)(r:RT w t v):RK w (lA l k t) (ko m k v):=by
 have amk:(l.any λkv=>decide (kv.1=k))=m.any λkv=>decide (kv.1=k):=by
  have e1:(l.any λkv=>decide (kv.1=k))=(l.map Prod.fst).any λj=>decide (j=k):=by rw[zcA];rfl
  have e2:(m.any λkv=>decide (kv.1=k))=(m.map Prod.fst).any λj=>decide (j=k):=by rw[zcA];rfl
  rw[e1,e2,h.1]
 have aml:∀{l:List (κ × Tr)} {m:List (κ × V)},RK w l m->RK w (l.map λkv=>if kv.1=k then (kv.1,t) else kv) (m.map λkv=>if kv.1=k then (kv.1,v) else kv):=by
  intro l;induction l with
  |nil=>intro m h;rw[h.cC];exact .nil
  |cons p l ih =>
   intro m h;obtain⟨j,u⟩:=p;obtain⟨x,r',rfl,h1,h2⟩:=h.bE;simp only[zas];by_cases e:j=k
   ·rw[if_pos e,if_pos e];exact .cons r (ih h2)
   ·rw[if_neg e,if_neg e];exact .cons h1 (ih h2)
 unfold lA ko;rw[amk];split
 ·exact aml h
 ·exact⟨by simp[h.1],by simp only[zaE,zas,zbK];exact h.2.snoc r⟩
theorem RK.gr:∀{l:List (Str×Tr)} {m:List (Str×V)},RK w l m->(f:Str)->{t:Tr}->{v:V}->RT w t v->RK w (bY f t l) (L2.gr f v m)
 |[],m,h,f,t,v,r=>by rw[h.cC];exact .cons r .nil
 | (j,u)::l,m,h,f,t,v,r=>by
  obtain⟨x,r',rfl,h1,h2⟩:=h.bE;unfold bY L2.gr;split
  ·exact .cons r h2
  ·exact .cons h1 (RK.gr h2 f r)
theorem RK.AU:∀{jx:List (dI×Tr)} {mv:List (dI×V)} {l:List (dI×Tr)} {m:List (dI×V)},RK w jx mv->RK w l m->RK w (fN l jx) (gm m mv)
 |[],mv,l,m,h,g=>by rw[h.cC];exact g
 | (k,t)::jx,mv,l,m,h,g=>by
  obtain⟨x,r',rfl,h1,h2⟩:=h.bE;show RK w (fN (lA l k t) jx) (gm (ko m k x) r')
  exact RK.AU h2 (g.DI k h1)
theorem g9 (e:jo t=some k)(r:RT w t v):v=kV k:=by
 cases t with
 |int i=>cases e;exact bh r
 |str i=>cases e;exact cg r
 |_=>cases e
end
noncomputable def dW:Tr->Bool|.br=>true|.bl _=>true|.int _=>true|.str _=>true|_=>false
noncomputable def Qn:Tr->Tr->Bool
 |.br,.br=>true
 |.bl a,.bl b=>a == b
 |.bl a,.int b=>(if a then 1 else 0) == b
 |.int a,.bl b=>a == (if b then 1 else 0)
 |.int a,.int b=>a == b
 |.str a,.str b=>a == b
 |_,_=>false
noncomputable def Kn (t:Tr)(l:List Tr):Bool:=l.any λu=>Qn u t
noncomputable def AB (neg:Bool):Tr->Tr->Cs->R Tr:=λt1 t2 S=>match t2 with
 |.str z=>(match t1 with|.str y=>.ok (.bl (if neg then !(!(Builtin.Str.occurrences z y 0 z.length 1).isEmpty) else !(Builtin.Str.occurrences z y 0 z.length 1).isEmpty)) S|_=>.aG)
 |t2=>match Bf S t2 with
  |some l=>if dW t1=true/\l.all dW=true then .ok (.bl (if neg then !Kn t1 l else Kn t1 l)) S else .aG
  |none=>.aG
section
variable {G:Gx}{k:Nat}{w:Wd}
theorem oY (h:dW t=true)(r:RT w t v):iA v=true:=by
 cases t<;>first | (cases h;done) | (unfold RT at r;subst r;rfl)
theorem mX:∀{l:List Tr} {xs:List V},l.all dW=true->bJ w l xs->xs.all iA=true
 |[],xs,_,r=>by rw[r.cC];rfl
 |t::l,xs,h,r=>by
  obtain⟨x,r',rfl,h1,h2⟩:=r.bE;have h:=zbf.mp (show (dW t && l.all dW)=true from h)
  show (iA x && r'.all iA)=true
  rw[oY h.1 h1,mX h.2 h2];rfl
theorem Ea (h1:dW t=true)(h2:dW u=true)(r1:RT w t x)(r2:RT w u y):zd x y=Qn t u:=by
 cases t<;>(first | (cases h1;done)|skip)<;>(unfold RT at r1;subst r1)<;>cases u<;>(first | (cases h2;done)|skip)<;>(unfold RT at r2;subst r2;rfl)
theorem Mf (h1:dW t=true)(r:RT w t x):∀{l:List Tr} {xs:List V},l.all dW=true->bJ w l xs->inV x xs=Kn t l
 |[],xs,_,q=>by rw[q.cC];rfl
 |u::l,xs,h,q=>by
  obtain⟨y,r',rfl,g1,g2⟩:=q.bE;have h:=zbf.mp (show (dW u && l.all dW)=true from h)
  show (zd y x || inV x r')=(Qn u t || Kn t l)
  rw[Ea h.1 h1 g1 r,Mf h1 r h.2 g2]
theorem Vx:nv G k (compareOp (if neg then .NotIn else .In)) (AB neg):=.mk<|λX o ah s σ H x y v u Q I rx ry cy=>by
 obtain⟨w,S,t1,t2,hr,r1,r2,q⟩:=cy;unfold AB at q;split at q
 ·split at q
  ·have q:=q w H _ (.refl w) hr gJ
   cases neg with
   |true=>exact zf ah s σ H x y v u Q I rx ry ⟨_,_,cg r1,cg r2,q⟩
   |false=>exact Ig ah s σ H x y v u Q I rx ry ⟨_,_,cg r1,cg r2,q⟩
  ·exact q.elim
 ·split at q
  ·rename_i l e
   split at q
   ·rename_i h
    obtain⟨a,xs,e1,sq,R⟩:=zw hr r2 e;have q:=q w H _ (.refl w) hr gJ
    rw[<-o.K] at sq;rw[<-Mf h.1 r1 h.2 R] at q;cases neg with
    |true=>exact ze ah s σ H x y v u Q I rx ry ⟨a,xs,e1,sq,oY h.1 r1,mX h.2 R,q⟩
    |false=>exact Ir ah s σ H x y v u Q I rx ry ⟨a,xs,e1,sq,oY h.1 r1,mX h.2 R,q⟩
   ·exact q.elim
  ·exact q.elim
theorem IY:nv G k (compareOp .In) (AB false):=Vx (neg:=false)
theorem Bh:nv G k (compareOp .NotIn) (AB true):=Vx (neg:=true)
noncomputable def Bj (neg:Bool):Tr->Tr->Cs->R Tr:=λt1 t2 S=>match Qm S t2,jo t1 with
 |some m,some j=>.ok (.bl (if neg then !(aV j m).isSome else (aV j m).isSome)) S
 |_,_=>.aG
variable {X:Cx}{a b c:Expr}{fa fb fc:Em}{pos RJ:Pos}
theorem Bk (r:RK w m aO)(j:dI):(lM aO j).isSome=(aV j m).isSome:=by
 obtain⟨h1,h2⟩:=oX (k:=j) r
 cases e:aV j m with
 |none=>rw[h2 e];rfl
 |some t=>obtain⟨v,ev,_⟩:=h1 t e;rw[ev];rfl
theorem Mg (h:fS G (ai (Bj neg) fa fb) σ H Q):(if neg then FT (fS G fa) (fS G fb) else agc (fS G fa) (fS G fb)) σ H Q:=by
 have h:=qd h;have go:∀{σ H Q},tOp (r2 G (Bj neg)) (fS G fa) (fS G fb) σ H Q->fS G fa σ H λy H1=>fS G fb σ H1 λx H2=>∃a o,x=V.ref a/\nL H2 a y o/\Q (.bl (if neg then !o.isSome else o.isSome)) H2:=λ{σ H Q} h=>by
  obtain⟨w,S,τ,hr,sl,q⟩:=h;refine⟨w,S,τ,hr,sl,q.mono λy H1 ⟨w1,S1,dY,bN,DY,q1⟩=>⟨w1,S1,dY,bN,DY,q1.mono λx H2 fC=>?_⟩⟩
  obtain⟨w2,S2,t1,t2,dQ,r1,r2,q2⟩:=fC;unfold Bj at q2;split at q2
  ·rename_i m j em ej
   obtain⟨n,aO,_,_,ev,hH,R⟩:=zx dQ r2 em;refine⟨w2.ρ n,lM aO j,ev,?_,?_⟩
   ·rw[g9 ej r1]
    exact nL.k hH
   ·rw[Bk R]
    exact q2 w2 H2 _ (.refl _) dQ gJ
  ·exact q2.elim
 cases neg with
 |true=>exact go h
 |false=>exact go h
theorem R0 (ha:TV G k X a fa)(hb:TV G k X b fb)(hm:autoParam (behindInMarks .NotIn b=false) zp_5):TV G k X (.Compare a [.NotIn] [b] pos) (ai (Bj true) fa fb):=.mk<|λo=>(Y3 (Iq o.hu1 (ha o) (hb o)) hm).wk λ_ _ _ h=>Mg (neg:=true) h
theorem aaF (ha:TV G k X a fa)(hb:TV G k X b fb)(hm:autoParam (behindInMarks .In b=false) zp_5):Dg G k X (.Compare a [.In] [b] pos) (mB (ai (Bj false) fa fb)):=.mk<|λo=>(Y4 (ZC o.hu1 (ha o) (hb o)) hm).wk λ_ _ _ h=>Mg (neg:=false) (rY h)
noncomputable def bH:Tr->Tr->Cs->R Tr:=λt1 t2 S=>match t1,t2 with
 |.str z,.int i=>if z.length<=sizeLine then (match iz z.cps.toList i with|some c=>.ok (.str ⟨#[c]⟩) S|none=>.aG) else .aG
 |t1,.int i=>(match Bf S t1 with
  |some l=>(match iz l i with|some t=>.ok t S|none=>.aG)
  |none=>.aG)
 |_,_=>.aG
theorem ahd (ha:TV G k X a fa)(hb:TV G k X b fb)(hs:autoParam (FZ b) zp_8):TV G k X (.Subscript a b pos) (ai bH fa fb):=.mk<|λo=>(agj ZL (ha o) (hb o) hs).wk λσ H Q h=>by
 obtain⟨w,S,τ,hr,sl,q⟩:=qd h;refine⟨w,S,τ,hr,sl,q.mono λx H1 ⟨w1,S1,dY,bN,DY,q1⟩=>⟨w1,S1,dY,bN,DY,q1.mono λy H2 iV=>?_⟩⟩
 obtain⟨w2,S2,t1,t2,dQ,r1,r2,q2⟩:=iV;unfold bH at q2;split at q2
 ·split at q2
  ·split at q2
   ·rename_i c e
    exact .inr (.inr ⟨_,_,c,cg r1,bh r2,(by assumption),e,q2 w2 H2 _ (.refl _) dQ kG⟩)
   ·exact q2.elim
  ·exact q2.elim
 ·split at q2
  ·rename_i l e
   split at q2
   ·rename_i t et
    obtain⟨p,xs,e1,sq,R⟩:=zw dQ r1 e;obtain⟨v,ev,rv⟩:=R.iz et;have q:=q2 w2 H2 v (.refl _) dQ rv
    rw[<-o.K] at sq;rcases sq with sq|sq
    ·exact .inl ⟨p,xs,_,v,e1,bh r2,sq,ev,q⟩
    ·exact .inr (.inl ⟨p,xs,_,v,e1,bh r2,sq,ev,q⟩)
   ·exact q2.elim
  ·exact q2.elim
 ·exact q2.elim
noncomputable def fY (f:Em):En->Cs->R (Option Int):=λτ S=>(f τ S).aE λt S1=>match t with|.int i=>.ok (some i) S1|_=>.aG
noncomputable def dG:En->Cs->R (Option Int):=λ_ S=>.ok none S
noncomputable def R3 (G:Gx)(f:En->Cs->R (Option Int)):TO:=λσ H Q=>∃w S τ,HR G w S H/\Sl w τ σ /\ bA (λ_ a b=>a=b) G w (f τ S) Q
structure TVO (G:Gx) (k:Nat) (X:Cx) (e:Option Expr) (f:En->Cs->R (Option Int)):Prop where
 kj:jy G k X->PO X e (R3 G f)
noncomputable instance {G:Gx}{k:Nat}{X:Cx}{e:Option Expr}{f:En->Cs->R (Option Int)}:CoeFun (TVO G k X e f) (λ_=>jy G k X->PO X e (R3 G f)):=⟨TVO.kj⟩
theorem R4:TVO G k X none dG:=.mk<|λo ah s σ H Q I jQ=>by obtain⟨w,S,τ,hr,sl,q⟩:=jQ;exact Q_ ah s σ H Q I (q w H _ (.refl w) hr rfl)
theorem R5 (ha:TV G k X a fa):TVO G k X (some a) (fY fa):=.mk<|λo ah s σ H Q I ⟨w,S,τ,hr,sl,q⟩=>Ra (ha o) ah s σ H Q I ⟨w,S,τ,hr,sl,(bA.aE q).mono λx H1 oS=>by
 obtain⟨w1,S1,t1,dz,bN,r1,_,q1⟩:=oS;split at q1
 ·exact⟨_,bh r1,q1 w1 H1 _ (.refl _) bN rfl⟩
 ·exact q1.elim⟩
noncomputable def qi (l:List Tr)(lo hi:Option Int):List Tr:=(l.drop (HT.gx l.length 0 lo)).take (HT.gx l.length l.length hi - HT.gx l.length 0 lo)
theorem bJ.cut (h:bJ w l xs)(lo hi:Option Int):bJ w (qi l lo hi) (AW xs lo hi):=by
 unfold qi AW;rw[h.len];exact (h.drop _).take _
noncomputable def lR (t:Tr)(lo hi:Option Int)(S:Cs):R Tr:=match t with
 |.str z=>if z.length<=sizeLine then .ok (.str (Txt.slice z lo hi)) S else .aG
 |t=>match Gb S t with
  |some l=>.ok (.ls (qi l lo hi)) S
  |none=>match Vu t with
   |some l=>if ¬ (HT.gx l.length 0 lo=0/\HT.gx l.length l.length hi=l.length) then .ok (.tp (qi l lo hi)) S else .aG
   |none=>.aG
noncomputable def wZ (g:Tr->Option Int->Option Int->Cs->R Tr)(fa:Em)(fl fh:En->Cs->R (Option Int)):Em:=λτ S=>(fa τ S).aE λt S1=>(fl τ S1).aE λlo S2=>(fh τ S2).aE λhi S3=>g t lo hi S3
variable {lo hi:Option Expr}{fl fh:En->Cs->R (Option Int)}
theorem Mh (h:fS G (wZ g fa fl fh) σ H Q):tSl (λx l u H3 Q=>∃w S t,HR G w S H3/\RT w t x/\bA RT G w (g t l u S) Q) (fS G fa) (R3 G fl) (R3 G fh) σ H Q:=by
 obtain⟨w,S,τ,hr,sl,q⟩:=h;refine⟨w,S,τ,hr,sl,(bA.aE q).mono λx H1 kJ=>?_⟩
 obtain⟨w1,S1,t1,dz,bN,r1,_,q1⟩:=kJ;refine⟨w1,S1,τ,bN,sl.mono dz,(bA.aE q1).mono λl H2 nM=>?_⟩
 obtain⟨w2,S2,t2,fM,dQ,r2,_,q2⟩:=nM;refine⟨w2,S2,τ,dQ,(sl.mono dz).mono fM,(bA.aE q2).mono λu H3 iW=>?_⟩
 obtain⟨w3,S3,t3,l8,qg,r3,_,q3⟩:=iW;subst r2 r3;exact⟨w3,S3,t1,qg,RT.mono (fM.trans l8) _ _ r1,q3⟩
theorem ahf (ha:TV G k X a fa)(hl:TVO G k X lo fl)(hh:TVO G k X hi fh):TV G k X (.Subscript a (.Slice lo hi none p2) pos) (wZ lR fa fl fh):=.mk<|λo =>
 (Lb (r:=λx l u H Q=>∃w S t,HR G w S H/\RT w t x/\bA RT G w (lR t l u S) Q) (λah s σ H x v vl vu lo hi sl Q I rx hs pl pu kK=>by
  obtain⟨w,S,t,hr,r,q⟩:=kK;unfold lR at q;split at q
  ·split at q
   ·exact ZT ah s σ H x v vl vu lo hi sl Q I rx hs pl pu ⟨_,cg r,by assumption,q w H _ (.refl w) hr kG⟩
   ·exact q.elim
  ·split at q
   ·rename_i l e
    obtain⟨a,xs,e1,sq,R⟩:=mh hr r e;rw[<-o.K] at sq;exact Rg ah s σ H x v vl vu lo hi sl Q I rx hs pl pu ⟨a,xs,e1,sq,hr.jz (R.cut lo hi) rfl q⟩
   ·split at q
    ·rename_i l e
     split at q
     ·rename_i hn
      obtain⟨a,xs,e1,sq,R⟩:=mj hr r e;rw[<-o.K] at sq;exact ZI ah s σ H x v vl vu lo hi sl Q I rx hs pl pu ⟨a,xs,e1,sq,by rw[R.len];exact hn,hr.aaA (R.cut lo hi) rfl q⟩
     ·exact q.elim
    ·exact q.elim) (ha o) (hl o) (hh o)).wk λ_ _ _ h=>Mh h
end
section
variable {G:Gx}{k:Nat}{X:Cx}{a b c o e:Expr}{es:List Expr}{fa fb fc fo f:Em}{fr:En->Cs->R (List Tr)}{pos p eY g7:Pos}{x:Str}{id T:String}
noncomputable def rN (G:Gx)(g:List Tr->Cs->R Tr):List V->Hp->VK->Prop:=λxs H Q=>∃w S ts,HR G w S H/\bJ w ts xs/\bA RT G w (g ts S) Q
noncomputable def bQ (g:List Tr->Cs->R Tr)(fr:En->Cs->R (List Tr)):Em:=λτ S=>(fr τ S).aE λts S1=>g ts S1
structure nE (G:Gx) (k:Nat) (f:Value) (g:List Tr->Cs->R Tr):Prop where
 kj:∀X:Cx,jy G k X->jJ X f (rN G g)
noncomputable instance {G:Gx}{k:Nat}{f:Value}{g:List Tr->Cs->R Tr}:CoeFun (nE G k f g) (λ_=>∀X:Cx,jy G k X->jJ X f (rN G g)):=⟨nE.kj⟩
theorem Ge (h:fS G (bQ g fr) σ H Q):tCB (rN G g) (D3 G fr) σ H Q:=by
 obtain⟨w,S,τ,hr,sl,q⟩:=h;exact⟨w,S,τ,hr,sl,(bA.aE q).mono λxs H1 cy=>by obtain⟨w1,S1,ts,dz,bN,r1,_,q1⟩:=cy;exact⟨w1,S1,ts,bN,r1,q1⟩⟩
theorem cF (hc:nE G k (.builtin id) g)(hm:X.mg x=none)(hv:bootBuiltins x=some (.builtin id))(ha:we G k X (e::es) fr)(hg:autoParam (Gl X x) zp_0)(hn:autoParam (x ≠ "__name__") zp_1)(sS:autoParam ((x == ("__debug__" : Str))=false) zp_1)
  (he:autoParam (dN e=false) zp_0) (hpl:autoParam (cX es=true) zp_0):TV G k X (.Call (.Name x p) (e::es) [] pos) (bQ g fr):=.mk<|λo =>
 (AO (hc X o) hg hm hv (ha o) hn sS (dF he) (fD hpl)).wk λ_ _ _ h=>Ge h
theorem iQ (hc:nE G k (.type T) g)(hm:X.mg x=none)(hv:bootBuiltins x=some (.type T))(ha:we G k X (e::es) fr)(hg:autoParam (Gl X x) zp_0)(hn:autoParam (x ≠ "__name__") zp_1)(sS:autoParam ((x == ("__debug__" : Str))=false) zp_1)
  (he:autoParam (dN e=false) zp_0) (hpl:autoParam (cX es=true) zp_0):TV G k X (.Call (.Name x p) (e::es) [] pos) (bQ g fr):=.mk<|λo =>
 (Il (hc X o) hg hm hv (ha o) hn sS (dF he) (fD hpl)).wk λ_ _ _ h=>Ge h
theorem gf (r:bJ w [t] xs):∃x,xs=[x]/\RT w t x:=by
 obtain⟨x,r',rfl,h1,h2⟩:=r.bE;exact⟨x,by rw[h2.cC],h1⟩
theorem Gf (r:bJ w [t,u] xs):∃x y,xs=[x,y]/\RT w t x/\RT w u y:=by
 obtain⟨x,r',rfl,h1,h2⟩:=r.bE;obtain⟨y,rfl,h3⟩:=gf h2;exact⟨x,y,rfl,h1,h3⟩
noncomputable def fU:List Tr->Cs->R Tr:=λts S=>match ts with
 |[.str z]=>if z.length<=sizeLine then .ok (.int z.length) S else .aG
 |[t]=>(match Bf S t with|some l=>.ok (.int l.length) S|none=>match Qm S t with|some m=>.ok (.int m.length) S|none=>.aG)
 |_=>.aG
theorem iE:nE G k (.builtin "len") fU:=.mk<|λX o ah s σ H xs us Q I rv dR=>by
 obtain⟨w,S,ts,hr,r,q⟩:=dR;unfold fU at q;split at q
 ·split at q
  ·obtain⟨x,rfl,r1⟩:=gf r
   exact zh ah s σ H _ us Q I rv ⟨_,by rw[cg r1],by assumption,q w H _ (.refl w) hr dU⟩
  ·exact q.elim
 ·obtain⟨x,rfl,r1⟩:=gf r
  split at q
  ·rename_i l e
   obtain⟨a,xs,e1,sq,R⟩:=zw hr r1 e;rw[<-o.K] at sq;have q:=q w H (.int xs.length) (.refl w) hr (by rw[R.len];exact dU)
   exact zg ah s σ H _ us Q I rv ⟨a,xs,by rw[e1],sq,q⟩
  ·split at q
   ·rename_i m e
    obtain⟨n,aO,_,_,ev,hH,R⟩:=zx hr r1 e;have q:=q w H (.int aO.length) (.refl w) hr (by rw[R.len];exact dU)
    exact IB ah s σ H _ us Q I rv ⟨w.ρ n,aO,by rw[ev],hH,q⟩
   ·exact q.elim
 ·exact q.elim
noncomputable def qR:List Tr->Cs->R Tr:=λts S=>match ts with
 |[t]=>(match Bf S t with|some l=>.ok (.ls l) S|none=>.aG)
 |_=>.aG
theorem tQ:nE G k (.type "list") qR:=.mk<|λX o ah s σ H xs us Q I rv fC=>by
 obtain⟨w,S,ts,hr,r,q⟩:=fC;unfold qR at q;split at q
 ·obtain⟨x,rfl,r1⟩:=gf r
  split at q
  ·rename_i l e
   obtain⟨a,xs,e1,sq,R⟩:=zw hr r1 e;rw[<-o.K] at sq;exact zj ah s σ H _ us Q I rv ⟨a,xs,by rw[e1],sq,hr.jz R rfl q⟩
  ·exact q.elim
 ·exact q.elim
noncomputable def ao1:List Tr->Cs->R Tr:=λts S=>match ts with
 |[.int i,.int j]=>.ok (.int (if j > i then j else i)) S
 |_=>.aG
noncomputable def w9:List Tr->Cs->R Tr:=λts S=>match ts with
 |[.int i,.int j]=>.ok (.int (if j<i then j else i)) S
 |_=>.aG
theorem aaG (hk:autoParam (0<k) zp_2):nE G k (.builtin "min") w9:=.mk<|λX o ah s σ H xs us Q I rv oS=>by
 obtain⟨w,S,ts,hr,r,q⟩:=oS;unfold w9 at q;split at q
 ·obtain⟨x,y,rfl,r1,r2⟩:=Gf r
  exact Ih (o.fX hk) ah s σ H _ us Q I rv ⟨_,_,by rw[bh r1,bh r2],q w H _ (.refl w) hr dU⟩
 ·exact q.elim
noncomputable def qS:List Tr->Option (List Int)|[]=>some []|.int i::l=>(qS l).map (i::·)|_=>none
noncomputable def qT:List Tr->Option (List Bool)|[]=>some []|.bl i::l=>(qT l).map (i::·)|_=>none
theorem Bl:∀{l:List Tr} {xs:List V} {ns:List Int},qS l=some ns->bJ w l xs->xs=ns.map V.int
 |[],xs,ns,h,r=>by cases h;exact r.cC
 |t::l,xs,ns,h,r=>by
  obtain⟨x,r',rfl,h1,h2⟩:=r.bE;cases t with
  |int i =>
   cases e:qS l with
   |none=>unfold qS at h;rw[e] at h;cases h
   |some ms=>unfold qS at h;rw[e] at h;cases h;rw[Bl e h2,bh h1];rfl
  |_=>cases h
theorem Bm:∀{l:List Tr} {xs:List V} {ns:List Bool},qT l=some ns->bJ w l xs->xs=ns.map V.bl
 |[],xs,ns,h,r=>by cases h;exact r.cC
 |t::l,xs,ns,h,r=>by
  obtain⟨x,r',rfl,h1,h2⟩:=r.bE;cases t with
  |bl i =>
   cases e:qT l with
   |none=>unfold qT at h;rw[e] at h;cases h
   |some ms=>unfold qT at h;rw[e] at h;cases h;rw[Bm e h2,mW h1];rfl
  |_=>cases h
noncomputable def R6:List Tr->Cs->R Tr:=λts S=>match ts with
 |[t]=>(match Gb S t with|some l=>(match qS l with|some ns=>.ok (.int ns.sum) S|none=>.aG)|none=>.aG)
 |_=>.aG
theorem ahg (hk:autoParam (0<k) zp_2):nE G k (.builtin "sum") R6:=.mk<|λX o ah s σ H xs us Q I rv kJ=>by
 obtain⟨w,S,ts,hr,r,q⟩:=kJ;unfold R6 at q;split at q
 ·obtain⟨x,rfl,r1⟩:=gf r
  split at q
  ·rename_i l e
   split at q
   ·rename_i ns en
    obtain⟨a,xs,e1,sq,R⟩:=mh hr r1 e;rw[<-o.K,Bl en R] at sq;exact LN (o.fX hk) ah s σ H _ us Q I rv ⟨a,ns,by rw[e1],sq,q w H _ (.refl w) hr dU⟩
   ·exact q.elim
  ·exact q.elim
 ·exact q.elim
noncomputable def R7:List Tr->Cs->R Tr:=λts S=>match ts with
 |[t]=>(match Be S t with|some l=>(match qT l with|some ns=>.ok (.bl (ns.any _root_.id)) S|none=>.aG)|none=>.aG)
 |_=>.aG
theorem ahh (hk:autoParam (0<k) zp_2):nE G k (.builtin "any") R7:=.mk<|λX o ah s σ H xs us Q I rv iW=>by
 obtain⟨w,S,ts,hr,r,q⟩:=iW;unfold R7 at q;split at q
 ·obtain⟨x,rfl,r1⟩:=gf r
  split at q
  ·rename_i l e
   split at q
   ·rename_i ns en
    obtain⟨a,xs,e1,sq,R⟩:=l_ hr r1 e;rw[Bm en R] at sq;exact LP (o.fX hk) ah s σ H _ us Q I rv ⟨a,ns,by rw[e1],sq,q w H _ (.refl w) hr gJ⟩
   ·exact q.elim
  ·exact q.elim
 ·exact q.elim
noncomputable def Ko (S:Cs):Tr->Option String
 |.br=>some "NoneType"
 |.bl _=>some "bool"
 |.int _=>some "int"
 |.str _=>some "str"
 |.tp _=>some "tuple"
 |.ls _=>some "list"
 |.hd n=>(match S[n]? with|some (.bM _)=>some "list" |some (.jn _)=>some "dict" |_=>none)
 |_=>none
noncomputable def Bo (a u:String):Option Bool:=if a="bool" /\ u="int" then some true else if a∈["NoneType","bool","int","str","tuple","list","dict"]/\u∈["bool","int","str","tuple","list","dict"] then some (decide (a=u)) else none
theorem R8 {K:W.Frag}{a u:String}{b:Bool}(h:Bo a u=some b):W.kitOne K (.type a) (.type u)=some b:=by
 unfold Bo at h;split at h
 ·rename_i e
  obtain⟨rfl,rfl⟩:=e;cases h;rfl
 ·split at h
  ·rename_i e
   obtain⟨e1,e2⟩:=e;simp only[zan,zaL,or_false] at e1 e2;rename_i hn;rcases e1 with rfl|rfl|rfl|rfl|rfl|rfl|rfl<;>rcases e2 with rfl|rfl|rfl|rfl|rfl|rfl<;>(first | (cases h;rfl) | (exact absurd ⟨rfl,rfl⟩ hn))
  ·cases h
theorem aaH (hr:HR G w S H)(r:RT w t v)(e:Ko S t=some ty):oz G.K H v (.type ty):=by
 cases t with
 |br=>cases e;rw[iX r];exact .br
 |bl=>cases e;rw[mW r];exact .bl _
 |int=>cases e;rw[bh r];exact .int _
 |str=>cases e;rw[cg r];exact .str _
 |tp l=>cases e;unfold RT at r;obtain⟨a,xs,rfl,h,_⟩:=r;exact .gE (hr.sub _ _ h)
 |ls l=>cases e;unfold RT at r;obtain⟨a,xs,rfl,h,_⟩:=r;exact .bM (hr.sub _ _ h)
 |hd n =>
  unfold Ko at e;rw[r.cY.2];dsimp only at e
  split at e
  ·rename_i l el
   cases e;obtain⟨xs,h,_⟩:=hr.cell n _ el;exact .bM h
  ·rename_i l el
   cases e;obtain⟨xs,h,_⟩:=hr.cell n _ el;exact .dK h
  ·cases e
 |kt _=>cases e
 |kl _=>cases e
noncomputable def IZ (u:String)(fa:Em):Em:=λτ S=>(fa τ S).aE λt S1=>match Ko S1 t with|some ty=>(match Bo ty u with|some b=>.ok (.bl b) S1|none=>.aG)|none=>.aG
theorem zA {p2:Pos}(hm:X.mg "isinstance"=none)(hy:X.mg y=none)(hb:bootBuiltins y=some (.type u))(ha:TV G k X a fa)(hg:autoParam (Gl X "isinstance") zp_0)(hgy:autoParam (Gl X y) zp_0)(hn:autoParam (y ≠ "__name__") zp_1)(hd:autoParam ((y == ("__debug__" : Str))=false) zp_1)
  (hs:autoParam (dN a=false) zp_0):TV G k X (.Call (.Name "isinstance" p) [a,.Name y p2] [] pos) (IZ u fa):=.mk<|λo =>
 (AO Lr hg hm PyProof.Rows.boot_isinstance (oA (ha o) (oA (Qy (v:=.ty u) hgy hy hb rfl hn hd) DE (dF rfl)) (dF hs)) (he:=dF hs) (hpl:=fD rfl)).wk λσ H Q h=>by
  obtain⟨w,S,τ,hr,sl,q⟩:=h;refine⟨w,S,τ,hr,sl,(bA.aE q).mono λx H1 kK=>?_⟩
  obtain⟨w1,S1,t1,dz,bN,r1,_,q1⟩:=kK;split at q1
  ·rename_i ty et
   split at q1
   ·rename_i b eb
    have ty:=aaH bN r1 et;rw[<-o.K] at ty;exact⟨x,.ty u,u,_,b,rfl,.inl rfl,ty,R8 eb,q1 w1 H1 _ (.refl _) bN gJ⟩
   ·exact q1.elim
  ·exact q1.elim
noncomputable def rM (G:Gx)(g:Tr->List Tr->Cs->R Tr):V->List V->Hp->VK->Prop:=λx xs H Q=>∃w S t ts,HR G w S H/\RT w t x/\bJ w ts xs/\bA RT G w (g t ts S) Q
noncomputable def rH (ck:Cs->Tr->Bool)(g:Tr->List Tr->Cs->R Tr)(fo:Em)(fr:En->Cs->R (List Tr)):Em:=λτ S=>(fo τ S).aE λt S1=>if ck S1 t=true then (fr τ S1).aE λts S2=>g t ts S2 else .aG
structure I_ (G:Gx) (k:Nat) (id:String) (g:Tr->List Tr->Cs->R Tr):Prop where
 kj:∀X:Cx,jy G k X->MtR X id (rM G g)
noncomputable instance {G:Gx}{k:Nat}{id:String}{g:Tr->List Tr->Cs->R Tr}:CoeFun (I_ G k id g) (λ_=>∀X:Cx,jy G k X->MtR X id (rM G g)):=⟨I_.kj⟩
noncomputable def Ja (S:Cs)(t:Tr):Bool:=(Gb S t).isSome
noncomputable def ckD (S:Cs)(t:Tr):Bool:=(Qm S t).isSome
noncomputable def ahj (ck:Cs->Tr->Bool)(T:String):Prop:=∀(G:Gx) (w:Wd) (S:Cs) (H:Hp) (t:Tr) (v:V),HR G w S H->RT w t v->ck S t=true->tyV G.K T v H
theorem kM:ahj Ja "list" := λG w S H t v hr r e=>by
 unfold Ja at e;obtain⟨l,el⟩:=zbR.mp e;obtain⟨a,xs,rfl,sq,_⟩:=mh hr r el;exact .inl ⟨rfl,xs,sq⟩
theorem aaI (hs:dN e=false)(Kf:cX es=true)(dB:decide (es.length<29)=true):((backTo g7 (starEach (e::es) env)).all (λx=>!x.1) && (backToKw g7 (keywordEach [] env)).all (λx=>x.1.isSome)
   && decide ((e::es).length+([]:List Keyword).length+(if ([]:List Keyword).isEmpty then 0 else 1)<30))=true:=by
 have h1:cX (e::es)=true:=by show (!dN e && cX es)=true;rw[hs,Kf];rfl
 rw[Bc h1];have h2:es.length<29:=of_decide_eq_true dB
 show (true && true && decide (es.length+1+0+0<30))=true
 rw[decide_eq_true (by omega)];rfl
theorem kN (pa:PlainAttrs T)(slot:Slot T name id)(hty:typeOf (.builtin id)=pure (.type "method_descriptor"))(hck:ahj ck T)(hm:I_ G k id g)(ho:TV G k X o fo)(ha:we G k X (e::es) fr)
  (Le:autoParam (attributeBase o name X.env (eval o X.env)=eval o X.env) zp_0)
  (hs:autoParam (dN e=false) zp_0) (Kf:autoParam (cX es=true) zp_0) (dB:autoParam (decide (es.length<29)=true) zp_0) (Lg:autoParam ((eY.endLine == g7.line)=true) zp_0):
  TV G k X (.Call (.Attribute o name eY) (e::es) [] g7) (rH ck g fo fr):=.mk<|λox =>
 (ago pa slot hty (hm X ox) (ho ox) (ha ox) Le (aaI hs Kf dB) Lg (dF hs) (fD Kf)).wk λσ H Q h=>by
  obtain⟨w,S,τ,hr,sl,q⟩:=h;refine⟨w,S,τ,hr,sl,(bA.aE q).mono λx H1 tM=>?_⟩
  obtain⟨w1,S1,t1,dz,bN,r1,_,q1⟩:=tM;split at q1
  ·rename_i hk
   rw[ox.K];exact⟨hck G w1 S1 H1 t1 x bN r1 hk,w1,S1,τ,bN,sl.mono dz,(bA.aE q1).mono λxs H2 tN=>by obtain⟨w2,S2,ts,fM,dQ,r2,_,q2⟩:=tN;exact⟨w2,S2,t1,ts,dQ,RT.mono fM _ _ r1,r2,q2⟩⟩
  ·exact q1.elim
noncomputable def wg:Tr->List Tr->Cs->R Tr:=λt ts S=>match t,ts with
 |.hd n,[u]=>(match cL S n with|some l=>if l.length<sizeLine then .ok .br (S.set n (.bM (l++[u]))) else .aG|none=>.aG)
 |_,_=>.aG
noncomputable def R9:Tr->List Tr->Cs->R Tr:=λt ts S=>match t,ts with
 |.hd n,[u]=>(match cL S n,Be S u with|some l,some m=>if l.length+m.length<=sizeLine then .ok .br (S.set n (.bM (l++m))) else .aG|_,_=>.aG)
 |_,_=>.aG
theorem putL (hr:HR G w S H)(e:cL S n=some l)(r:bJ w l' ys):HR G w (S.set n (.bM l')) (bF H (w.ρ n) (.bM ys)):=
 hr.DI (dh e) rfl rfl ⟨ys,ay,r⟩
theorem iY:I_ G k "list.append" wg:=.mk<|λX o ah s σ H x xs v us Q I rx rv tO=>by
 obtain⟨w,S,t,ts,hr,r,rs,q⟩:=tO;unfold wg at q;split at q
 ·split at q
  ·rename_i l e
   split at q
   ·obtain⟨y,rfl,r1⟩:=gf rs
    obtain⟨ys,h1,h2⟩:=hr.cell _ _ (dh e)
    exact wL ah s σ H x _ v us Q I rx rv ⟨_,ys,y,r.cY.2,rfl,h1,by rw[h2.len];assumption,q w _ _ (.refl w) (putL hr e (h2.snoc r1)) tK⟩
   ·exact q.elim
  ·exact q.elim
 ·exact q.elim
theorem Mi:I_ G k "list.extend" R9:=.mk<|λX o ah s σ H x xs v us Q I rx rv D7=>by
 obtain⟨w,S,t,ts,hr,r,rs,q⟩:=D7;unfold R9 at q;split at q
 ·split at q
  ·rename_i l m e em
   split at q
   ·obtain⟨y,rfl,r1⟩:=gf rs
    obtain⟨ys,h1,h2⟩:=hr.cell _ _ (dh e)
    obtain⟨b,zs,rfl,hb,R⟩:=l_ hr r1 em;exact Iv ah s σ H x _ v us Q I rx rv ⟨_,b,ys,zs,r.cY.2,rfl,h1,hb,by rw[h2.len,R.len];assumption,q w _ _ (.refl w) (putL hr e (h2.rW R)) tK⟩
   ·exact q.elim
  ·exact q.elim
 ·exact q.elim
noncomputable def zB (t:Tr):List Tr->Option Nat
 |[]=>none
 |u::l=>if Qn u t=true then some 0 else (zB t l).map (· + 1)
theorem Gg {x:V}(ft:dW t=true)(r:RT w t x):∀{l:List Tr} {xs:List V} {j:Nat},l.all dW=true->bJ w l xs->zB t l=some j->∃z,xs[j]? = some z/\zd z x=true/\∀m z',m<j->xs[m]? = some z'->zd z' x=false
 |[],xs,j,_,_,e=>by cases e
 |u::l,xs,j,h,q,e=>by
  obtain⟨y,r',rfl,g1,g2⟩:=q.bE;have h:=zbf.mp (show (dW u && l.all dW)=true from h)
  unfold zB at e;split at e
  ·rename_i he
   cases e;exact⟨y,rfl,by rw[Ea h.1 ft g1 r];exact he,λm z' hm=>by omega⟩
  ·rename_i he
   cases ei:zB t l with
   |none=>rw[ei] at e;cases e
   |some i =>
    rw[ei] at e;cases e;obtain⟨z,k1,k2,k3⟩:=Gg ft r h.2 g2 ei;refine⟨z,by simpa using k1,k2,λm z' hm hz=>?_⟩
    cases m with
    |zero =>
     simp at hz
     subst hz;rw[Ea h.1 ft g1 r];exact Bool.eq_false_iff.mpr he
    |succ m=>exact k3 m z' (by have hm:m+1<i+1:=hm;omega) (by simpa using hz)
noncomputable def qj:Tr->List Tr->Cs->R Tr:=λt ts S=>match ts with
 |[u]=>(match Be S t with|some l=>if dW u=true/\l.all dW=true then (match zB u l with|some j=>.ok (.int (j:Int)) S|none=>.aG) else .aG|none=>.aG)
 |_=>.aG
theorem R_:I_ G k "list.index" qj:=.mk<|λX o ah s σ H x xs v us Q I rx rv aaJ=>by
 obtain⟨w,S,t,ts,hr,r,rs,q⟩:=aaJ;unfold qj at q;split at q
 ·split at q
  ·rename_i l e
   split at q
   ·rename_i h
    split at q
    ·rename_i j ej
     obtain⟨y,rfl,r1⟩:=gf rs;obtain⟨a,ys,rfl,ha,R⟩:=l_ hr r e;obtain⟨z,k1,k2,k3⟩:=Gg h.1 r1 h.2 R ej;exact LD ah s σ H _ _ v us Q I rx rv ⟨a,ys,y,z,j,rfl,rfl,ha,oY h.1 r1,mX h.2 R,k1,k2,k3,q w H _ (.refl w) hr dU⟩
    ·exact q.elim
   ·exact q.elim
  ·exact q.elim
 ·exact q.elim
theorem bJ.ints:∀(l:List Int),bJ w (l.map Tr.int) (l.map V.int)
 |[]=>.nil
 |x::l=>.cons dU (bJ.ints l)
end
section
variable {G:Gx}{k:Nat}{X:Cx}{a b c o e value:Expr}{es:List Expr}{fa fb fc fo fi fv f:Em}{fr:En->Cs->R (List Tr)}{pos jI p eY g7:Pos}{x:Str}
noncomputable def bO (i:Nat):Tr->En->Cs->R En:=λt τ S=>.ok (τ.set i (some t)) S
theorem Sb (hN:X.N.Nodup)(hi:X.N[i]? = some x)(hx:U7 X.env.scope x)(hf:autoParam (X.fn x=true\/X.env.scope.names.lookup x=some .local) zp_4):L5 G k X (.Name x pos) (bO i):=.mk<|λ_=>(QC hN hi hx hf).wk λv σ H Q h=>by
 obtain⟨w,S,τ,t,hr,sl,r,q⟩:=h;exact q w H _ (.refl w) hr (sl.set i r)
noncomputable abbrev Bs:=List Tr->En->Cs->R En
noncomputable def oZ:Bs:=λts τ S=>match ts with|[]=>.ok τ S|_=>.aG
noncomputable def eU (b:Tr->En->Cs->R En)(r:Bs):Bs:=λts τ S=>match ts with|t::l=>(b t τ S).aE λdY S1=>r l dY S1|[]=>.aG
noncomputable def Vy (G:Gx)(f:Bs):TGs:=λvs σ H Q=>∃w S τ ts,HR G w S H/\Sl w τ σ /\ bJ w ts vs/\bA Sl G w (f ts τ S) Q
structure Jb (G:Gx) (k:Nat) (X:Cx) (ts:List Expr) (f:Bs):Prop where
 kj:jy G k X->QB X ts (Vy G f)
noncomputable instance {G:Gx}{k:Nat}{X:Cx}{ts:List Expr}{f:Bs}:CoeFun (Jb G k X ts f) (λ_=>jy G k X->QB X ts (Vy G f)):=⟨Jb.kj⟩
theorem QB.wk (h:QB X ts t)(g:∀vs σ H Q,t' vs σ H Q->t vs σ H Q):QB X ts t':=λah s σ H vs us Q I r q=>h ah s σ H vs us Q I r (g _ _ _ _ q)
theorem Sd:Jb G k X [] oZ:=.mk<|λ_=>QD.wk λvs σ H Q h=>by
 obtain⟨w,S,τ,ts,hr,sl,r,q⟩:=h;unfold oZ at q;split at q
 ·exact⟨r.cC,q w H _ (.refl w) hr sl⟩
 ·exact q.elim
theorem Mj {b:Tr->En->Cs->R En}(h1:L5 G k X e b)(h2:Jb G k X es r)(hs:autoParam ((assignEach (e::es) X.env).map (·.2)=assign e X.env::(assignEach es X.env).map (·.2)) zp_0):Jb G k X (e::es) (eU b r):=.mk<|λo=>(KG (h1 o) (h2 o) hs).wk λvs σ H Q h=>by
 obtain⟨w,S,τ,ts,hr,sl,r,q⟩:=h;unfold eU at q;split at q
 ·obtain⟨v,vr,rfl,r1,r2⟩:=r.bE
  exact⟨v,vr,rfl,w,S,τ,_,hr,sl,r1,(bA.aE q).mono λσ1 H1 cy=>by obtain⟨w1,S1,dY,dz,bN,DY,_,q1⟩:=cy;exact⟨w1,S1,dY,_,bN,DY,bJ.mono dz _ _ r2,q1⟩⟩
 ·exact q.elim
noncomputable def jq (n:Nat)(r:Bs):Tr->En->Cs->R En:=λt τ S=>match Vu t with|some l=>if l.length=n then r l τ S else .aG|none=>.aG
theorem kO (h:Jb G k X es r)(hn:autoParam ((assignEach es X.env).length=n) zp_0)(pQ:autoParam ((assignEach es X.env).findIdx? (·.1)=none) zp_0)(hk:autoParam (0<k) zp_2):L5 G k X (.Tuple es kk pos) (jq n r):=.mk<|λo=>(Ze (o.fX hk) (h o) hn pQ).wk λv σ H Q h=>by
 obtain⟨w,S,τ,t,hr,sl,r,q⟩:=h;unfold jq at q;split at q
 ·rename_i l el
  split at q
  ·obtain⟨a,xs,e1,sq,R⟩:=mj hr r el
   rw[<-o.K] at sq;exact⟨a,xs,e1,sq,by rw[R.len];assumption,w,S,τ,l,hr,sl,R,q⟩
  ·exact q.elim
 ·exact q.elim
noncomputable def aaK (fo fi:Em):Tr->En->Cs->R En:=λt τ S=>(fo τ S).aE λu S1=>(fi τ S1).aE λj S2=>match u,j with
 |.hd n,.int i=>(match cL S2 n with|some l=>(match AA l.length i with|some m=>.ok τ (S2.set n (.bM (l.set m t)))|none=>.aG)|none=>.aG)
 |_,_=>.aG
theorem aaL (ho:TV G k X o fo)(hi:TV G k X i fi)(ha:autoParam (∀v,assign (.Subscript o i pos) X.env v=(do
   let ov <-holding [v] (eval o X.env)
   let iv <-holding [v,ov] (eval i X.env)
   standAt pos
   holding [v,ov,iv] (setItem ov iv v)
   release [v,ov,iv] [])) zp_3):L5 G k X (.Subscript o i pos) (aaK fo fi):=.mk<|λox=>(Zf (ho ox) (hi ox) agL ha).wk λv σ H Q h=>by
 obtain⟨w,S,τ,t,hr,sl,r,q⟩:=h;refine⟨w,S,τ,hr,sl,(bA.aE q).mono λx H1 dR=>?_⟩
 obtain⟨w1,S1,t1,dz,bN,r1,_,q1⟩:=dR;refine⟨w1,S1,τ,bN,sl.mono dz,(bA.aE q1).mono λy H2 fC=>?_⟩
 obtain⟨w2,S2,t2,fM,dQ,r2,_,q2⟩:=fC;split at q2
 ·split at q2
  ·rename_i l el
   split at q2
   ·rename_i m em
    have r1':=(RT.mono fM _ _ r1).cY
    obtain⟨ys,h1,h2⟩:=dQ.cell _ _ (dh el)
    refine⟨_,_,r1'.2,bh r2,?_⟩
    rw[h1];show match AA ys.length _ with|some j=>_|none=>False
    rw[h2.len,em];exact q2 w2 _ _ (.refl _) (putL dQ el (h2.set (RT.mono (dz.trans fM) _ _ r) m)) ((sl.mono dz).mono fM)
   ·exact q2.elim
  ·exact q2.elim
 ·exact q2.elim
noncomputable def aH:Sm:=λτ S=>.nx τ S
noncomputable def ao (f g:Sm):Sm:=λτ S=>match f τ S with|.nx dY S1=>g dY S1|r=>r
noncomputable def di (f:Em):Sm:=λτ S=>(f τ S).bP λ_ S1=>.nx τ S1
noncomputable def aI (f:Em):Sm:=λτ S=>(f τ S).bP λt S1=>.rt t S1
noncomputable def cP (c:En->Cs->R Bool)(f g:Sm):Sm:=λτ S=>(c τ S).bP λb S1=>if b=true then f τ S1 else g τ S1
noncomputable def aP (i:Nat)(f:Em):Sm:=λτ S=>(f τ S).bP λt S1=>.nx (τ.set i (some t)) S1
noncomputable def Ml (f:Em)(b:Tr->En->Cs->R En):Sm:=λτ S=>(f τ S).bP λt S1=>(b t τ S1).bP λdY S2=>.nx dY S2
noncomputable def Mm:Sm:=λ_ _=>.aG
variable {st:Stmt}{dc:List Stmt}{s1 s2:Sm}
theorem aaM:IS G k X [] aH:=.mk<|λ_=>QA.wk λD σ H h=>by
 obtain⟨w,S,τ,hr,sl,q⟩:=h;exact q w H σ (.refl w) hr sl
theorem aaN (h:zu G k X st s1):IS G k X [st] s1:=.mk<|λo=>FE (h o)
theorem Se (h1:zu G k X st s1)(h2:IS G k X dc s2):IS G k X (st::dc) (ao s1 s2):=.mk<|λo=>(sN (h1 o) (h2 o)).wk λD σ H h=>by
 obtain⟨w,S,τ,hr,sl,q⟩:=h;refine⟨w,S,τ,hr,sl,?_⟩
 unfold ao at q;split at q
 ·rename_i dY S1 e
  rw[e];exact λw' H' d7 le ql Kw=>⟨w',S1,dY,ql,Kw,cE.wd le q⟩
 ·rename_i r Dd
  cases e:s1 τ S with
  |nx dY S1=>exact absurd e (Dd dY S1)
  |rt t S1=>rw[e] at q;exact q
  |bk t S1=>rw[e] at q;exact q
  |ct t S1=>rw[e] at q;exact q
  |ex t S1=>rw[e] at q;exact q
  |aG=>rw[e] at q;exact q
theorem Mn:zu G k X st Mm:=.mk<|λ_=>KD.wk λD σ H h=>by
 obtain⟨w,S,τ,hr,sl,q⟩:=h;exact q.elim
theorem Sf (he:TV G k X e f)(hs:autoParam (swapsWith e none pos.line X.env=pure false) zp_0):zu G k X (.Expr e pos) (di f):=.mk<|λo=>(FF (he o) hs).wk λD σ H h=>by
 obtain⟨w,S,τ,hr,sl,q⟩:=h;exact⟨w,S,τ,hr,sl,(cE.aE q).mono λv H1 iU=>by obtain⟨w1,S1,t1,dz,bN,r1,_,q1⟩:=iU;exact q1 w1 H1 σ (.refl _) bN (sl.mono dz)⟩
theorem aaO (he:TV G k X e f):zu G k X (.Return (some e) pos) (aI f):=.mk<|λo=>(Zb (he o)).wk λD σ H h=>by
 obtain⟨w,S,τ,hr,sl,q⟩:=h;exact⟨w,S,τ,hr,sl,(cE.aE q).mono λv H1 iV=>by obtain⟨w1,S1,t1,dz,bN,r1,_,q1⟩:=iV;exact q1 w1 H1 v (.refl _) bN r1⟩
theorem ahk (hc:Dg G k X c ta)(ha:IS G k X as s1)(hb:IS G k X bs s2):zu G k X (.If c as bs pos) (cP ta s1 s2):=.mk<|λo=>(afG (hc o) (ha o) (hb o)).wk λD σ H h=>by
 obtain⟨w,S,τ,hr,sl,q⟩:=h;refine⟨w,S,τ,hr,sl,(cE.aE q).mono λx H1 l6=>?_⟩
 obtain⟨w1,S1,t1,dz,bN,r1,_,q1⟩:=l6;subst r1;cases t1 with
 |true=>rw[if_pos rfl] at q1;exact A0 ⟨w1,S1,τ,bN,sl.mono dz,q1⟩
 |false=>rw[if_neg zal] at q1;exact AZ ⟨w1,S1,τ,bN,sl.mono dz,q1⟩
theorem Mp (h:LZ G (aP i f) D σ H):QE (fS G f) (FG i) D σ H:=by
 obtain⟨w,S,τ,hr,sl,q⟩:=h;exact⟨w,S,τ,hr,sl,(cE.aE q).mono λv H1 jN=>by obtain⟨w1,S1,t1,dz,bN,r1,_,q1⟩:=jN;exact q1 w1 H1 _ (.refl _) bN ((sl.mono dz).set i r1)⟩
theorem aaP (hN:X.N.Nodup)(hi:X.N[i]? = some x)(hx:U7 X.env.scope x)(he:TV G k X e f)(hs:autoParam (swapsWith e (some (.Name x jI)) pos.line X.env=pure false) zp_0)(hf:autoParam (X.fn x=true\/X.env.scope.names.lookup x=some .local) zp_4):
  zu G k X (.Assign [.Name x jI] e pos) (aP i f):=.mk<|λo=>(Zh hN hi hx (he o) hs hf).wk λ_ _ _ h=>Mp h
theorem aaQ {b:Tr->En->Cs->R En}(he:TV G k X e f)(hg:L5 G k X tg b)(hs:autoParam (swapsWithSole [tg] e pos.line X.env=pure false) zp_0)(hw:autoParam (swappedStores [tg] e X.env=pure none) zp_0)
  (h1:autoParam ((assignEach [tg] X.env).map (·.2)=[assign tg X.env]) zp_0):zu G k X (.Assign [tg] e pos) (Ml f b):=.mk<|λo=>(Zg (he o) (hg o) hs hw h1).wk λD σ H h=>by
 obtain⟨w,S,τ,hr,sl,q⟩:=h;exact⟨w,S,τ,hr,sl,(cE.aE q).mono λv H1 jQ=>by obtain⟨w1,S1,t1,dz,bN,r1,_,q1⟩:=jQ;exact⟨w1,S1,τ,t1,bN,sl.mono dz,r1,(cE.aE q1).mono λAz H2 L_=>by obtain⟨w2,S2,j8,fM,dQ,K_,_,q2⟩:=L_;exact q2 w2 H2 Az (.refl _) dQ K_⟩⟩
noncomputable def amn (i j:Nat)(fr:En->Cs->R (List Tr)):Sm:=λτ S=>(fr τ S).bP λts S1=>match ts with|[t,u]=>.nx ((τ.set i (some t)).set j (some u)) S1|_=>.aG
noncomputable def o4 (u j t:Tr)(S:Cs):R Unit:=match u with
 |.hd n=>(match jo j with|some q=>(match tP S n with|some m=>if m.length<sizeLine then .ok () (S.set n (.jn (lA m q t))) else .aG|none=>.aG)|none=>.aG)
 |_=>.aG
theorem Mq {x y v:V}(hr:HR G w S H)(ru:RT w u x)(rj:RT w j y)(rt:RT w t v)(e:o4 u j t S = .ok () S'):∃a H',x = .ref a/\Im H a y v H'/\HR G w S' H':=by
 unfold o4 at e;split at e
 ·split at e
  ·rename_i q ek
   split at e
   ·rename_i m em
    split at e
    ·cases e
     obtain⟨aO,h1,h2⟩:=hr.cell _ _ (gO em)
     refine⟨_,_,ru.cY.2,by rw[g9 ek rj];exact Im.k h1 (by rw[h2.len];assumption),?_⟩
     exact hr.DI (gO em) rfl rfl ⟨_,ay,h2.DI q rt⟩
    ·cases e
   ·cases e
  ·cases e
 ·cases e
noncomputable def Gh (fo fi fv:Em):Sm:=λτ S=>(fv τ S).bP λt S1=>(fo τ S1).bP λu S2=>(fi τ S2).bP λj S3=>(o4 u j t S3).bP λ_ S4=>.nx τ S4
theorem Eb:o4 u j t S ≠ .ex n S':=by
 unfold o4;split<;>(try split)<;>(try split)<;>(try split)<;>simp
theorem Gi (ho:TV G k X o fo)(hi:TV G k X i fi)(hv:TV G k X value fv)(hs:autoParam (swapsWith value (some (.Subscript o i jI)) pos.line X.env=pure false) zp_0):zu G k X (.Assign [.Subscript o i jI] value pos) (Gh fo fi fv):=.mk<|λox=>(Q4 ox.hu1 (ho ox) (hi ox) (hv ox) hs).wk λD σ H h=>by
 obtain⟨w,S,τ,hr,sl,q⟩:=h;refine⟨w,S,τ,hr,sl,(cE.aE q).mono λv H1 kJ=>?_⟩
 obtain⟨w1,S1,t,dz,bN,r1,_,q1⟩:=kJ;refine⟨w1,S1,τ,bN,sl.mono dz,(cE.aE q1).mono λx H2 nM=>?_⟩
 obtain⟨w2,S2,u,fM,dQ,r2,_,q2⟩:=nM;refine⟨w2,S2,τ,dQ,(sl.mono dz).mono fM,(cE.aE q2).mono λy H3 iW=>?_⟩
 obtain⟨w3,S3,j,l8,qg,r3,_,q3⟩:=iW;cases e:o4 u j t S3 with
 |ok z S4 =>
  rw[e] at q3;obtain⟨a,H4,e1,d,Kl⟩:=Mq qg (RT.mono l8 _ _ r2) r3 (RT.mono (fM.trans l8) _ _ r1) e
  exact⟨a,H4,e1,d,q3 w3 _ σ (.refl _) Kl (((sl.mono dz).mono fM).mono l8)⟩
 |ex n S4=>exact absurd e Eb
 |aG=>rw[e] at q3;exact q3.elim
noncomputable def dP (G:Gx)(cs:List Str)(f:Str):Prop:=∀c∈cs,rS G.K (G.cl c)/\bV G.K (G.cl c) f
noncomputable def Jc (cs:List Str)(f:Str)(t:Tr)(S:Cs):R Tr:=match t with
 |.hd n=>(match iC S n with|some (c,fs)=>if c∈cs then (match aV f fs with|some u=>.ok u S|none=>.aG) else .aG|none=>.aG)
 |_=>.aG
noncomputable def aQ (cs:List Str)(f:Str)(fo:Em):Em:=λτ S=>(fo τ S).aE λt S1=>Jc cs f t S1
theorem av {f:Str}(hf:dP G cs f)(ho:TV G k X o fo)(hb:autoParam (attributeBase o f X.env (eval o X.env)=eval o X.env) zp_0):TV G k X (.Attribute o f pos) (aQ cs f fo):=.mk<|λox=>(Zu (ho ox) hb).wk λσ H Q h=>by
 obtain⟨w,S,τ,hr,sl,q⟩:=h;refine⟨w,S,τ,hr,sl,(bA.aE q).mono λx H1 kK=>?_⟩
 obtain⟨w1,S1,t1,dz,bN,r1,_,q1⟩:=kK;unfold Jc at q1;split at q1
 ·split at q1
  ·rename_i c fs ei
   split at q1
   ·rename_i hc
    split at q1
    ·rename_i u eu
     obtain⟨dx,tG,h1,h2⟩:=bN.cell _ _ (fE ei)
     obtain⟨v,ev,rv⟩:=(gp (k:=f) h2).1 u eu
     obtain⟨c1,c2⟩:=hf c hc;rw[<-ox.K] at c1 c2;exact⟨_,_,dx,tG,v,r1.cY.2,h1,c1,c2,ev,q1 w1 H1 v (.refl _) bN rv⟩
    ·exact q1.elim
   ·exact q1.elim
  ·exact q1.elim
 ·exact q1.elim
noncomputable def o5 (cs:List Str)(f:Str)(t v:Tr)(S:Cs):R Unit:=match t with
 |.hd n=>(match iC S n with|some (c,fs)=>if c∈cs/\fs.length<1000 then .ok () (S.set n (.dZ c (bY f v fs))) else .aG|none=>.aG)
 |_=>.aG
noncomputable def bR (cs:List Str)(f:Str)(fo fv:Em):Sm:=λτ S=>(fv τ S).bP λt S1=>(fo τ S1).bP λu S2=>(o5 cs f u t S2).bP λ_ S3=>.nx τ S3
theorem Sg {f:Str}{x y:V}(hf:dP G cs f)(hr:HR G w S H)(rt:RT w t x)(ru:RT w u y)(e:o5 cs f t u S = .ok () S'):
  ∃a C dx fs,x = .ref a/\H a=some (.dZ C dx fs)/\rS G.K C/\bV G.K C f/\fs.length<1000/\HR G w S' (bF H a (.dZ C dx (gr f y fs))):=by
 unfold o5 at e;split at e
 ·split at e
  ·rename_i c fs ei
   split at e
   ·rename_i hc
    cases e;obtain⟨dx,tG,h1,h2⟩:=hr.cell _ _ (fE ei)
    obtain⟨c1,c2⟩:=hf c hc.1;exact⟨_,_,dx,tG,rt.cY.2,h1,c1,c2,by rw[h2.len];exact hc.2,hr.DI (fE ei) rfl rfl ⟨dx,_,ay,h2.gr f ru⟩⟩
   ·cases e
  ·cases e
 ·cases e
theorem aW {f:Str}(hf:dP G cs f)(ho:TV G k X o fo)(hv:TV G k X value fv)(hs:autoParam (swapsWith value (some (.Attribute o f jI)) pos.line X.env=pure false) zp_0):zu G k X (.Assign [.Attribute o f jI] value pos) (bR cs f fo fv):=.mk<|λox=>(Zv (ho ox) (hv ox) hs).wk λD σ H h=>by
 obtain⟨w,S,τ,hr,sl,q⟩:=h;refine⟨w,S,τ,hr,sl,(cE.aE q).mono λv H1 tM=>?_⟩
 obtain⟨w1,S1,t,dz,bN,r1,_,q1⟩:=tM;refine⟨w1,S1,τ,bN,sl.mono dz,(cE.aE q1).mono λx H2 tN=>?_⟩
 obtain⟨w2,S2,u,fM,dQ,r2,_,q2⟩:=tN;cases e:o5 cs f u t S2 with
 |ok z S3 =>
  rw[e] at q2;obtain⟨a,C,dx,fs,e1,h1,c1,c2,hl,qg⟩:=Sg hf dQ r2 (RT.mono fM _ _ r1) e
  rw[<-ox.K] at c1 c2;exact⟨a,C,dx,fs,e1,h1,c1,c2,hl,q2 w2 _ σ (.refl _) qg ((sl.mono dz).mono fM)⟩
 |ex n S3=>exact absurd e (by unfold o5;split<;>(try split)<;>(try split)<;>simp)
 |aG=>rw[e] at q2;exact q2.elim
noncomputable def w_ (cs:List Str)(f:Str)(g:Int->Int->Int)(fo fv:Em):Sm:=λτ S=>(fo τ S).bP λt S1=>match t with
 |.hd n=>(match iC S1 n with
  |some (c,fs)=>if c∈cs then (match aV f fs with
   |some (.int i)=>(fv τ S1).bP λy S2=>(match y with
    |.int j=>(match iC S2 n with|some (c',Kc)=>if c'=c/\Kc.length<1000 then .nx τ (S2.set n (.dZ c (bY f (.int (g i j)) Kc))) else .aG|none=>.aG)
    |_=>.aG)
   |_=>.aG) else .aG
  |none=>.aG)
 |_=>.aG
theorem rZ {f:Str}(hop:∀X:Cx,QU X op (λx y H Q=>∃i j,x = .int i/\y = .int j/\Q (.int (g i j)) H))(hf:dP G cs f)(ho:TV G k X o fo)(hv:TV G k X value fv):zu G k X (.AugAssign (.Attribute o f jI) op value pos) (w_ cs f g fo fv):=.mk<|λox=>(Ii (ho ox) (hv ox) (hop X)).wk λD σ H h=>by
 obtain⟨w,S,τ,hr,sl,q⟩:=h;refine⟨w,S,τ,hr,sl,(cE.aE q).mono λx H1 D5=>?_⟩
 obtain⟨w1,S1,t,dz,bN,r1,_,q1⟩:=D5;split at q1
 ·rename_i n
  split at q1
  ·rename_i c fs ei
   split at q1
   ·rename_i hc
    split at q1
    ·rename_i i eu
     obtain⟨dx,tG,h1,h2⟩:=bN.cell _ _ (fE ei)
     obtain⟨v,ev,rv⟩:=(gp (k:=f) h2).1 _ eu
     obtain⟨c1,c2⟩:=hf c hc;rw[<-ox.K] at c1 c2;refine⟨_,_,dx,tG,v,r1.cY.2,h1,c1,c2,ev,w1,S1,τ,bN,sl.mono dz,(cE.aE q1).mono λy H2 tO=>?_⟩
     obtain⟨w2,S2,t2,fM,dQ,r2,_,q2⟩:=tO;split at q2
     ·rename_i j
      split at q2
      ·rename_i c' Kc ei'
       split at q2
       ·rename_i hl
        obtain⟨rfl,hl⟩:=hl;obtain⟨dx',amo,h1',Gj⟩:=dQ.cell _ _ (fE ei')
        have e0:=fM.r _ r1.cY.1;rw[e0] at h1';refine⟨i,_,bh rv,bh r2,dx',amo,h1',by rw[Gj.len];exact hl,q2 w2 _ σ (.refl _) ?_ ((sl.mono dz).mono fM)⟩
        rw[<-e0];exact dQ.DI (fE ei') rfl rfl ⟨dx',_,ay,Gj.gr f dU⟩
       ·exact q2.elim
      ·exact q2.elim
     ·exact q2.elim
    ·exact q1.elim
   ·exact q1.elim
  ·exact q1.elim
 ·exact q1.elim
theorem r9:∀X:Cx,QU X .Add (λx y H Q=>∃i j,x = .int i/\y = .int j/\Q (.int (i+j)) H):=λ_=>Zw
end
structure Bp where
 items:List Tr
 gP:Cs->Prop
noncomputable def Sh (G:Gx)(w:Wd)(s:Bp)(J:It):Prop:=∀(w1:Wd) (S1:Cs) (H1:Hp) (i:Nat),w.K=w1.K->w.n<=w1.n->(∀i,i<w.n->w1.ρ i=w.ρ i)->(∀b o,w.F b=some o->w1.F b=some o)->HR G w1 S1 H1->s.gP S1 ->
 (∀t,s.items[i]? = some t->J.go i H1/\∀x H2,J.yld i H1 x H2->∃w2,w1.le w2/\HR G w2 S1 H2/\RT w2 t x)/\(i=s.items.length->J.stop i H1)
noncomputable def Si (G:Gx)(f:En->Cs->R Bp):TI:=λσ H Q=>∃w S τ,HR G w S H/\Sl w τ σ /\ bA (λw s J=>Sh G w s J) G w (f τ S) Q
structure Qo (G:Gx) (k:Nat) (X:Cx) (tg d9:Expr) (f:En->Cs->R Bp):Prop where
 kj:jy G k X->PI X tg d9 (Si G f)
noncomputable instance {G:Gx}{k:Nat}{X:Cx}{tg d9:Expr}{f:En->Cs->R Bp}:CoeFun (Qo G k X tg d9 f) (λ_=>jy G k X->PI X tg d9 (Si G f)):=⟨Qo.kj⟩
section
variable {G:Gx}{k:Nat}{X:Cx}{a b c o e tg:Expr}{es:List Expr}{fa fb f:Em}{fr:En->Cs->R (List Tr)}{pos p:Pos}
theorem PI.wk (h:PI X tg d9 t)(g:∀ σ H Q,t' σ H Q->t σ H Q):PI X tg d9 t':=λah s σ H R I q=>h ah s σ H R I (g _ _ _ q)
theorem RT.xg (hK:w.K=w1.K)(hn:w.n<=w1.n)(iP:∀i,i<w.n->w1.ρ i=w.ρ i)(hF:∀b o,w.F b=some o->w1.F b=some o)(r:RT w t v):RT w1 t v:=
 RT.mono (w:={w with hid:=w1.hid}) ⟨hK.symm,hn,iP,hF,rfl⟩ t v (RT.bD _ t v r)
theorem bJ.xg (hK:w.K=w1.K)(hn:w.n<=w1.n)(iP:∀i,i<w.n->w1.ρ i=w.ρ i)(hF:∀b o,w.F b=some o->w1.F b=some o)(r:bJ w l xs):bJ w1 l xs:=
 bJ.mono (w:={w with hid:=w1.hid}) ⟨hK.symm,hn,iP,hF,rfl⟩ l xs (bJ.bD _ l xs r)
noncomputable def iL:Tr->Cs->R Bp:=λt S=>match t with
 |.ls l=>.ok ⟨l,λ_=>True⟩ S
 |.kl l=>.ok ⟨l,λ_=>True⟩ S
 |.hd n=>(match cL S n with|some l=>.ok ⟨l,λS'=>cL S' n=some l⟩ S|none=>.aG)
 |_=>.aG
noncomputable def iT:Tr->Cs->R Bp:=λt S=>match t with
 |.tp l=>.ok ⟨l,λ_=>True⟩ S
 |.kt l=>.ok ⟨l,λ_=>True⟩ S
 |_=>.aG
noncomputable def tR (g:Tr->Cs->R Bp)(f:Em):En->Cs->R Bp:=λτ S=>(f τ S).aE λt S1=>g t S1
noncomputable def ahl (G:Gx)(w:Wd)(s:Bp)(a:Addr)(l:List Tr):Prop:=s.items=l/\∀(w1:Wd) (S1:Cs) (H1:Hp),w.K=w1.K->w.n<=w1.n->(∀i,i<w.n->w1.ρ i=w.ρ i)->(∀b o,w.F b=some o->w1.F b=some o)->HR G w1 S1 H1->s.gP S1->∃xs,jk G.K H1 a xs/\bJ w1 l xs
theorem Gk (hr:HR G w S H)(r:RT w t v)(e:iL t S = .ok s S'):S'=S/\∃a l,v = .ref a/\(∃xs,jk G.K H a xs/\bJ w l xs)/\ahl G w s a l:=by
 unfold iL at e;split at e
 ·cases e
  unfold RT at r;obtain⟨a,xs,rfl,h,r⟩:=r;exact⟨rfl,a,_,rfl,⟨xs,jk.of (hr.sub _ _ h),r⟩,rfl,λw1 S1 H1 hK hn iP hF bN _=>⟨xs,jk.of (bN.sub _ _ (hF _ _ h)),r.xg hK hn iP hF⟩⟩
 ·cases e
  unfold RT at r;obtain⟨a,xs,rfl,h,r⟩:=r;exact⟨rfl,a,_,rfl,⟨xs,hr.sqL h,r⟩,rfl,λw1 S1 H1 hK hn iP hF bN _=>⟨xs,bN.sqL (by rw[<-hK];exact h.mono hF),r.xg hK hn iP hF⟩⟩
 ·rename_i n
  split at e
  ·rename_i l el
   cases e;obtain⟨xs,h1,h2⟩:=hr.cell _ _ (dh el)
   have hi:=r.cY;refine⟨rfl,_,l,hi.2,⟨xs,jk.of h1,h2⟩,rfl,λw1 S1 H1 hK hn iP hF bN hc=>?_⟩
   obtain⟨ys,h3,h4⟩:=bN.cell _ _ (dh hc)
   rw[iP _ hi.1] at h3;exact⟨ys,jk.of h3,h4⟩
  ·cases e
 ·cases e
theorem Gm:iL t S ≠ .ex n S':=by
 unfold iL;split<;>(try split)<;>simp
theorem Sj (ha:TV G k X a fa):Qo G k X tg a (tR iL fa):=.mk<|λox=>(QF (ha ox)).wk λσ H Q h=>by
 obtain⟨w,S,τ,hr,sl,q⟩:=h;refine⟨w,S,τ,hr,sl,(bA.aE q).mono λx H1 cy=>?_⟩
 obtain⟨w1,S1,t1,dz,bN,r1,_,q1⟩:=cy;cases e:iL t1 S1 with
 |ok s S2 =>
  rw[e] at q1;obtain⟨rfl,p,l,rfl,⟨xs,sq,R⟩,ei,st⟩:=Gk bN r1 e
  refine⟨p,rfl,⟨xs,by rw[ox.K];exact sq⟩,q1 w1 H1 _ (.refl _) bN λw2 S2 H2 i hK hn iP hF dQ hc=>?_⟩
  obtain⟨ys,Mr,R2⟩:=st w2 S2 H2 hK hn iP hF dQ hc;rw[ei];refine⟨λt et=>?_,λhi=>⟨ys,by rw[ox.K];exact Mr,by rw[R2.len,hi];exact zah _⟩⟩
  obtain⟨v,ev,rv⟩:=R2.get et;refine⟨⟨ys,v,by rw[ox.K];exact Mr,ev⟩,λy H3 dR=>?_⟩
  obtain⟨e3,hy⟩:=dR;subst e3
  have:=hy ys (by rw[ox.K];exact Mr)
  rw[ev] at this;cases this;exact⟨w2,.refl _,dQ,rv⟩
 |ex n S2=>exact absurd e Gm
 |aG=>rw[e] at q1;exact q1.elim
theorem aaR (ha:TV G k X a fa):Qo G k X tg a (tR iT fa):=.mk<|λox=>(Zi (ha ox)).wk λσ H Q h=>by
 obtain⟨w,S,τ,hr,sl,q⟩:=h;refine⟨w,S,τ,hr,sl,(bA.aE q).mono λx H1 fC=>?_⟩
 obtain⟨w1,S1,t1,dz,bN,r1,_,q1⟩:=fC;have go:∀{l:List Tr},Vu t1=some l->bA (λw s J=>Sh G w s J) G w1 (.ok ⟨l,λ_=>True⟩ S1) Q->∃a,x = .ref a/\(∃xs,nI X.K H1 a xs)/\Q (Itt X.K a) H1:=λ{l} el q1=>by
  obtain⟨p,xs,rfl,sq,R⟩:=mj bN r1 el;refine⟨p,rfl,⟨xs,by rw[ox.K];exact sq⟩,q1 w1 H1 _ (.refl _) bN λw2 S2 H2 i hK hn iP hF dQ hc=>?_⟩
  obtain⟨_,ys,ep,Mr,R2⟩:=mj dQ (r1.xg hK hn iP hF) el
  cases ep;refine⟨λt et=>?_,λhi=>⟨ys,by rw[ox.K];exact Mr,by rw[R2.len,hi];exact zah _⟩⟩
  obtain⟨v,ev,rv⟩:=R2.get et;refine⟨⟨ys,v,by rw[ox.K];exact Mr,ev⟩,λy H3 iU=>?_⟩
  obtain⟨e3,hy⟩:=iU;subst e3
  have:=hy ys (by rw[ox.K];exact Mr)
  rw[ev] at this;cases this;exact⟨w2,.refl _,dQ,rv⟩
 unfold iT at q1;split at q1
 ·exact go rfl q1
 ·exact go rfl q1
 ·exact q1.elim
noncomputable def rJ (lo:Int)(n:Nat):List Tr:=(List.range n).map λ(j:Nat)=>Tr.int (lo+j)
noncomputable def tS (fr:En->Cs->R (List Tr)):En->Cs->R Bp:=λτ S=>(fr τ S).aE λts S1=>match ts with
 |[.int j]=>wc (-(2 ^ 62)<=j/\j<2 ^ 62) (.ok ⟨rJ 0 j.toNat,λ_=>True⟩ S1) .aG
 |_=>.aG
theorem aaS {lo:Int}:Sh G w ⟨rJ lo n,λ_=>True⟩ (Itr lo n):=λw2 S2 H2 i hK hn iP hF dQ hc=>by
 refine⟨λt et=>?_,λhi=>?_⟩
 ·have et:(rJ lo n)[i]? = some t:=et
  unfold rJ at et;rw[zaq] at et;have jg:i<n:=by
   cases ec:(List.range n)[i]? with
   |none=>rw[ec] at et;cases et
   |some c=>simpa using (zab.mp ec).1
  rw[zcX jg] at et;cases et;refine⟨jg,λy H3 jN=>?_⟩
  obtain⟨e3,ey⟩:=jN;subst e3;subst ey;exact⟨w2,.refl _,dQ,dU⟩
 ·show n<=i
  have hi:i=(rJ lo n).length:=hi
  unfold rJ at hi;simp at hi
  omega
theorem o7 (hm:X.mg "range"=none)(ha:we G k X [a] fr)(hg:autoParam (Gl X "range") zp_0)(hs:autoParam (dN a=false) zp_0):Qo G k X tg (.Call (.Name "range" p) [a] [] pos) (tS fr):=.mk<|λox=>(Ic hg hm (ha ox) (dF hs)).wk λσ H Q h=>by
 obtain⟨w,S,τ,hr,sl,q⟩:=h;refine⟨w,S,τ,hr,sl,(bA.aE q).mono λxs H1 jQ=>?_⟩
 obtain⟨w1,S1,ts,dz,bN,r1,_,q1⟩:=jQ;split at q1
 ·unfold wc at q1
  split at q1
  ·rename_i h
   obtain⟨x,rfl,rx⟩:=gf r1;exact⟨_,by rw[bh rx],h.1,h.2,q1 w1 H1 _ (.refl _) bN aaS⟩
  ·exact q1.elim
 ·exact q1.elim
noncomputable def qU (st:Nat)(l:List Tr):List Tr:=(l.zip (List.range l.length)).map λp=>Tr.tp [.int ((st+p.2:Nat):Int),p.1]
noncomputable def mEn (st:Nat)(fr:En->Cs->R (List Tr)):En->Cs->R Bp:=λτ S=>(fr τ S).aE λts S1=>match ts with
 |[t]=>(iL t S1).aE λs S2=>.ok ⟨qU st s.items,s.gP⟩ S2
 |_=>.aG
theorem xh {st:Nat}{t:Tr}(h:(qU st l)[i]? = some t):∃u,l[i]? = some u/\t = .tp [.int ((st+i:Nat):Int),u]:=by
 unfold qU at h;rw[zaq] at h;cases e:(l.zip (List.range l.length))[i]? with
 |none=>rw[e] at h;cases h
 |some p =>
  rw[e] at h;cases h;obtain⟨u,j⟩:=p;rw[List.getElem?_zip_eq_some] at e;obtain⟨e1,e2⟩:=e;have jg:i<l.length:=(zab.mp e1).1
  rw[zcX jg] at e2;cases e2;exact⟨u,e1,rfl⟩
theorem qm {st:Nat}:(qU st l).length=l.length:=by simp[qU]
theorem ahm {st:Nat}(hK:X.K=G.K){Q:It->Hp->Prop}(h:Si G (mEn st fr) σ H Q):iEn X.K st (D3 G fr) σ H Q:=by
 obtain⟨w,S,τ,hr,sl,q⟩:=h;refine⟨w,S,τ,hr,sl,(bA.aE q).mono λxs H1 nM=>?_⟩
 obtain⟨w1,S1,ts,dz,bN,r1,_,q1⟩:=nM;split at q1
 ·rename_i t _
  obtain⟨x,rfl,rx⟩:=gf r1;cases e:iL t S1 with
  |ok s S2 =>
   rw[e] at q1;obtain⟨rfl,p,l,rfl,⟨xs,sq,R⟩,ei,pU⟩:=Gk bN rx e
   refine⟨p,xs,rfl,by rw[hK];exact sq,q1 w1 H1 _ (.refl _) bN λw2 S2 H2 i hK2 hn iP hF dQ hc=>?_⟩
   obtain⟨ys,Mr,R2⟩:=pU w2 S2 H2 hK2 hn iP hF dQ hc;refine⟨λt et=>?_,λhi=>⟨ys,by rw[hK];exact Mr,?_⟩⟩
   ·obtain⟨u,eu,rfl⟩:=xh et
    rw[ei] at eu;obtain⟨v,ev,rv⟩:=R2.get eu;refine⟨⟨ys,v,by rw[hK];exact Mr,ev⟩,λy H3 iW=>?_⟩
    obtain⟨T,z,hT,ey,eH,hz⟩:=iW
    have:=hz ys (by rw[hK];exact Mr)
    rw[ev] at this;cases this;subst ey;subst eH;obtain⟨h3,l8⟩:=dQ.lay hT (.gE [.int ((st+i:Nat):Int),v])
    refine⟨_,l8,h3,?_⟩
    unfold RT;exact⟨T,_,rfl,ay,.cons dU (.cons (RT.mono l8 _ _ rv) .nil)⟩
   ·have hi:i=(qU st s.items).length:=hi
    rw[qm,ei] at hi;rw[R2.len,hi]
  |ex n S2=>exact absurd e Gm
  |aG=>rw[e] at q1;exact q1.elim
 ·exact q1.elim
theorem zC {x1}(hm:X.mg "enumerate"=none)(ha:we G k X [a] fr)(hg:autoParam (Gl X "enumerate") zp_0)(hs:autoParam (dN a=false) zp_0):Qo G k X (.Tuple Rz x1 tp) (.Call (.Name "enumerate" p) [a] [] pos) (mEn 0 fr):=.mk<|λox=>(RD hg hm (ha ox) (dF hs)).wk λσ H Q h=>ahm ox.K h
noncomputable def Vz (r:RS)(g:Sm):RS:=match r with|.nx τ S=>g τ S|.ct τ S=>g τ S|.bk τ S=>.nx τ S|.rt t S=>.rt t S|.ex n S=>.ex n S|.aG=>.aG
open Classical in
noncomputable def fV (gP:Cs->Prop)(b:Tr->En->Cs->R En)(f:Sm):List Tr->En->Cs->RS
 |[],τ,S=>if gP S then .nx τ S else .aG
 |t::r,τ,S=>if gP S then (b t τ S).bP λdY S1=>Vz (f dY S1) (fV gP b f r) else .aG
noncomputable def qo (fi:En->Cs->R Bp)(b:Tr->En->Cs->R En)(f:Sm):Sm:=λτ S=>(fi τ S).bP λs S1=>fV s.gP b f s.items τ S1
theorem Sk (h:cE G w (Vz r g) D)(hN:∀w' H' d7 τ S,w.le w'->HR G w' S H'->Sl w' τ d7->cE G w' (g τ S) D->N d7 H'):cE G w r {D with nx:=N,ct:=N,bk:=D.nx}:=by
 cases r with
 |nx τ S=>exact λw' H' d7 le hr sl=>hN w' H' d7 τ S le hr sl (cE.wd le h)
 |ct τ S=>exact λw' H' d7 le hr sl=>hN w' H' d7 τ S le hr sl (cE.wd le h)
 |bk τ S=>exact h
 |rt τ S=>exact h
 |ex τ S=>exact h
 |aG=>exact h
theorem jB (hp:PassesOwn (model X.prog X.w) X.A X.env X.xe)(hi:Qo G k X tg d9 fi)(hg:L5 G k X tg bt)(hb:IS G k X body sb)(hs:autoParam (∀x,foldedSetIterable d9 X.env x=pure x) zp_3)(hk:autoParam (0<k) zp_2):zu G k X (.For tg d9 body [] pos) (qo fi bt sb):=.mk<|λox =>
 (Zj hp (ox.fX hk) (hi ox) (hg ox) (hb ox) hs).wk λD σ H h=>by
  obtain⟨w,S,τ,hr,sl,q⟩:=h;refine⟨w,S,τ,hr,sl,(cE.aE q).mono λJ H1 kK=>?_⟩
  obtain⟨w1,S1,s,dz,bN,it,_,q1⟩:=kK;refine⟨λi m Az H2=>∃w2 S2 j8,w1.le w2/\HR G w2 S2 H2/\Sl w2 j8 Az/\i<=s.items.length/\m=s.items.length - i/\cE G w2 (fV s.gP bt sb (s.items.drop i) j8 S2) D,⟨_,w1,S1,τ,.refl _,bN,sl.mono dz,zcG _,rfl,q1⟩,?_⟩
  rintro i m Az H2 ⟨w2,S2,j8,fM,dQ,K_,hi,rfl,q2⟩
  by_cases jg:i<s.items.length
  ·have ed:s.items.drop i=s.items[i]::s.items.drop (i+1):=zcu jg
   rw[ed] at q2;unfold fV at q2;split at q2
   ·rename_i hc
    obtain⟨go,yl⟩:=(it w2 S2 H2 i fM.K.symm fM.n fM.r fM.F dQ hc).1 s.items[i] (zad jg)
    refine .inr ⟨go,λd7 H'=>∃m',m' < s.items.length - i/\∃w2 S2 j8,w1.le w2/\HR G w2 S2 H'/\Sl w2 j8 d7/\i+1<=s.items.length/\m'=s.items.length - (i+1)/\cE G w2 (fV s.gP bt sb (s.items.drop (i+1)) j8 S2) D,λd7 H' h=>h,λx H' hy=>?_⟩
    obtain⟨w3,l8,qg,r3⟩:=yl x H' hy;refine⟨w3,S2,j8,_,qg,K_.mono l8,r3,(cE.aE (cE.wd l8 q2)).mono λσ4 H4 ⟨w4,S4,Dl,L7,Kl,sl4,_,q4⟩=>⟨w4,S4,Dl,Kl,sl4,Sk q4 λw5 H5 σ5 τ5 S5 le5 hr5 sl5 q5=>?_⟩⟩
    exact⟨_,by omega,w5,S5,τ5,((fM.trans l8).trans L7).trans le5,hr5,sl5,jg,rfl,q5⟩
   ·exact q2.elim
  ·have e:i=s.items.length:=by omega
   subst e;rw[List.drop_length] at q2;unfold fV at q2;split at q2
   ·rename_i hc
    exact .inl ⟨(it w2 S2 H2 _ fM.K.symm fM.n fM.r fM.F dQ hc).2 rfl,q2 w2 H2 Az (.refl _) dQ K_⟩
   ·exact q2.elim
end
noncomputable def Gx.nx (G:Gx):Gx:={G with E:=E0}
theorem bG.nx:bG G.nx w H a c↔bG G w H a c:=by cases c<;>exact Iff.rfl
theorem HR.nx (h:HR G w S H):HR G.nx w S H:=⟨h.K,h.n,h.F,λi c e=>bG.nx.mpr (h.cell i c e),h.inj,h.hid,h.jP,h.hl⟩
theorem HR.unx (h:HR G.nx w S H):HR G w S H:=⟨h.K,h.n,h.F,λi c e=>bG.nx.mp (h.cell i c e),h.inj,h.hid,h.jP,h.hl⟩
noncomputable def jf {α:Type}(r:R α):R α:= match r with|.ok a s=>.ok a s|_=>.aG
noncomputable def jC (fr:List Nat)(n:Nat)(τ:En):En:=(fr.map λj=>(τ[j]?).join)++List.replicate n none
noncomputable def jr:En->Cs->R Bool:=λ_ S=>.ok true S
open Classical in
noncomputable def c8 (gP:Cs->Prop)(b:Tr->En->Cs->R En)(c:En->Cs->R Bool)(f:Em):List Tr->En->List Tr->Cs->R (List Tr)
 |[],_,cA,S=>if gP S then .ok cA S else .aG
 |t::r,τ,cA,S=>if gP S then (jf (b t τ S)).aE λdY S1=>(jf (c dY S1)).aE λx S2=>if x=true then (jf (f dY S2)).aE λu S3=>(if cA.length<sizeLine then c8 gP b c f r dY (cA++[u]) S3 else .aG) else c8 gP b c f r dY cA S2 else .aG
noncomputable def gq (fi:En->Cs->R Bp)(fr:List Nat)(n:Nat)(b:Tr->En->Cs->R En)(c:En->Cs->R Bool)(f:Em):Em:=λτ S=>(fi τ S).aE λs S1=>(c8 s.gP b c f s.items (jC fr n τ) [] S1).aE λl S2=>.ok (.ls l) S2
structure Jd (G:Gx) (k:Nat) (X:Cx) (rB:List Expr) (c:En->Cs->R Bool):Prop where
 kj:jy G k X->DQ X rB (Bb G c)
noncomputable instance {G:Gx}{k:Nat}{X:Cx}{rB:List Expr}{c:En->Cs->R Bool}:CoeFun (Jd G k X rB c) (λ_=>jy G k X->DQ X rB (Bb G c)):=⟨Jd.kj⟩
section
variable {G:Gx}{k:Nat}{X:Cx}
theorem Sn:Jd G k X [] jr:=.mk<|λ_ ah s σ H Q I cy=>by obtain⟨w,S,τ,hr,sl,q⟩:=cy;exact Rl ah s σ H Q I (q w H _ (.refl w) hr rfl)
theorem So (h:Dg G k X c t):Jd G k X [c] t:=.mk<|λo=>Rm (h o)
theorem jy.comp (o:jy G k X):jy G.nx k (qP X N sc C fp s H xe):=⟨o.K,o.fX,o.room,o.un⟩
theorem Sq (sl:Sl w τ σ)(j:Nat)(h:(τ[j]?).join=some t):∃v,(σ[j]?).join=some v/\RT w t v:=by
 have e:τ[j]? = some (some t):=by
  cases q:τ[j]? with
  |none=>rw[q] at h;cases h
  |some x=>rw[q] at h;cases x with
   |none=>cases h
   |some y=>cases h;rfl
 obtain⟨v,ev,rv⟩:=sl.rq j t e;exact⟨v,by rw[ev];rfl,rv⟩
theorem Sl.comp (sl:Sl w τ σ)(fr:List Nat)(T:List Str):Sl w (jC fr T.length τ) (kC fr T σ):=by
 unfold jC kC;refine⟨by simp,λi t e=>?_⟩
 by_cases hi:i<fr.length
 ·rw[zaj (by simpa using hi),zaq] at e
  rw[zaj (by simpa using hi),zaq]
  rw[zad hi] at e ⊢
  have e1:(τ[fr[i]]?).join=some t:=by simpa using e
  obtain⟨v,ev,rv⟩:=Sq sl _ e1;exact⟨v,by simp[ev],rv⟩
 ·rw[zat (by simpa using hi)] at e
  rw[zcF] at e;split at e<;>cases e
variable {F T:List Str}{fr:List Nat}{sc:Scope}{v8 target d9:Expr}{rB:List Expr}{pos:Pos}{fi:En->Cs->R Bp}{bt:Tr->En->Cs->R En}{fc:En->Cs->R Bool}{fe:Em}
inductive aaT|val|cel
noncomputable def aaT.eO:aaT->List Tr->Cs->R Tr|.val,l,S=>.ok (.ls l) S|.cel,l,S=>.ok (.hd S.length) (S++[.bM l])
theorem Gn (ce:aaT)(hK:X.K=G.K)(h:fS G (λτ S=>(fi τ S).aE λs S1=>(c8 s.gP bt fc fe s.items (jC fr T.length τ) [] S1).aE λl S2=>ce.eO l S2) σ H Q):
  F5 (Si G fi) fr T (aan G.nx bt) (Bb G.nx fc) (fS G.nx fe) σ H Q:=by
 obtain⟨w,S,τ,hr,sl,q⟩:=h;refine⟨w,S,τ,hr,sl,(bA.aE q).mono λJ H1 ⟨w1,S1,s,dz,bN,it,_,q1⟩=>λD hD=>?_⟩
 have hhD:=bN.Ga hD;refine⟨λi m Az xs H2=>∃w2 S2 j8 cA,w2.hid=bF w1.hid D (.bM xs)/\w2.K=w1.K/\w1.n<=w2.n/\(∀i,i<w1.n->w2.ρ i=w1.ρ i)/\(∀b o,w1.F b=some o->w2.F b=some o)/\HR G w2 S2 H2/\Sl w2 j8 Az/\bJ w2 cA xs/\i<=s.items.length/\m=s.items.length - i /\
   bA RT G w1 ((c8 s.gP bt fc fe (s.items.drop i) j8 cA S2).aE λl S3=>ce.eO l S3) Q,?_,?_⟩
 ·refine⟨_,{w1 with hid:=bF w1.hid D (.bM [])},S1,_,[],rfl,rfl,zah _,λ_ _=>rfl,λ_ _ e=>e,bN.ami hD _ (λ_ z=>by cases z),?_,.nil,zcG _,rfl,q1⟩
  have:=(sl.mono dz).comp fr T
  exact⟨this.len,λi t e=>let ⟨v,ev,rv⟩:=this.rq i t e;⟨v,ev,RT.bD _ t v rv⟩⟩
 ·rintro i m Az xs H2 ⟨w2,S2,j8,cA,eh,eK,hn,iP,hF,dQ,K_,ra,hi,rfl,q2⟩
  have hDx:w2.hid D=some (.bM xs):=by rw[eh];exact ay
  refine⟨dQ.hid D _ hDx,?_⟩
  by_cases jg:i<s.items.length
  ·have ed:s.items.drop i=s.items[i]::s.items.drop (i+1):=zcu jg
   rw[ed] at q2;unfold c8 at q2;split at q2
   ·rename_i hc
    obtain⟨go,yl⟩:=(it w2 S2 H2 i eK.symm hn iP hF dQ hc).1 s.items[i] (zad jg)
    refine .inr ⟨go,λd7 ys H'=>∃m',m' < s.items.length - i/\∃w2 S2 j8 cA,w2.hid=bF w1.hid D (.bM ys)/\w2.K=w1.K/\w1.n<=w2.n/\(∀i,i<w1.n->w2.ρ i=w1.ρ i)/\(∀b o,w1.F b=some o->w2.F b=some o)/\HR G w2 S2 H'/\Sl w2 j8 d7/\bJ w2 cA ys/\i+1<=s.items.length/\m'=s.items.length - (i+1) /\
     bA RT G w1 ((c8 s.gP bt fc fe (s.items.drop (i+1)) j8 cA S2).aE λl S3=>ce.eO l S3) Q,λd7 ys H' h=>h,λx H' hy=>?_⟩
    obtain⟨w3,l8,qg,r3⟩:=yl x H' hy;refine⟨w3,S2,j8,_,qg.nx,K_.mono l8,r3,?_⟩
    cases eb:bt s.items[i] j8 S2 with
    |ok Dl S4 =>
     rw[eb] at q2;intro w4 H4 σ4 L7 Kl sl4;refine⟨w4,S4,Dl,Kl,sl4,?_⟩
     have q2:bA RT G w1 (((jf (fc Dl S4)).aE λx S2=>if x=true then (jf (fe Dl S2)).aE λu S3=>(if cA.length<sizeLine then c8 s.gP bt fc fe (s.items.drop (i+1)) Dl (cA++[u]) S3 else .aG) else c8 s.gP bt fc fe (s.items.drop (i+1)) Dl cA S2).aE λl S3=>ce.eO l S3) Q:=q2
     cases ec:fc Dl S4 with
     |ok bb S5 =>
      rw[ec] at q2;have q2:bA RT G w1 ((if bb=true then (jf (fe Dl S5)).aE λu S3=>(if cA.length<sizeLine then c8 s.gP bt fc fe (s.items.drop (i+1)) Dl (cA++[u]) S3 else .aG) else c8 s.gP bt fc fe (s.items.drop (i+1)) Dl cA S5).aE λl S3=>ce.eO l S3) Q:=q2
      intro w5 H5 b' le5 hr5 eb';subst eb';have Ec:=(l8.trans L7).trans le5
      have Bq:w5.hid=bF w1.hid D (.bM xs)/\w5.K=w1.K/\w1.n<=w5.n/\(∀i,i<w1.n->w5.ρ i=w1.ρ i)/\(∀b o,w1.F b=some o->w5.F b=some o):=⟨Ec.hid.trans eh,Ec.K.trans eK,zai hn Ec.n,λi hi=>(Ec.r i (zak hi hn)).trans (iP i hi),λb o e=>Ec.F b o (hF b o e)⟩
      cases bb with
      |true =>
       rw[if_pos rfl] at q2;refine A0 ⟨w5,S5,Dl,hr5,sl4.mono le5,?_⟩
       cases ef:fe Dl S5 with
       |ok u S6 =>
        rw[ef] at q2;have q2:bA RT G w1 ((if cA.length<sizeLine then c8 s.gP bt fc fe (s.items.drop (i+1)) Dl (cA++[u]) S6 else .aG).aE λl S3=>ce.eO l S3) Q:=q2
        intro w6 H6 v le6 hr6 r6;have Ed:=Ec.trans le6;split at q2
        ·rename_i dB
         have ra6:=bJ.mono Ed _ _ ra;have hD6:w6.hid D=some (.bM xs):=by rw[Ed.hid];exact hDx
         have e6:w6.hid=bF w1.hid D (.bM xs):=Ed.hid.trans eh
         refine⟨hr6.unx.hid D _ hD6,by rw[ra.len];exact dB,_,by omega,{w6 with hid:=bF w6.hid D (.bM (xs++[v]))},S6,Dl,cA++[u],?_,Ed.K.trans eK,zai hn Ed.n,λi hi=>(Ed.r i (zak hi hn)).trans (iP i hi),λb o e=>Ed.F b o (hF b o e),hr6.unx.aaj hD6 _ (λ_ z=>by cases z),?_,?_,jg,rfl,q2⟩
         ·show bF w6.hid D _=_
          rw[e6,Fy]
         ·have:=(sl4.mono le5).mono le6
          exact⟨this.len,λi t e=>let ⟨v,ev,rv⟩:=this.rq i t e;⟨v,ev,RT.bD _ t v rv⟩⟩
         ·exact bJ.bD _ _ _ (ra6.snoc r6)
        ·exact q2.elim
       |ex n S6=>rw[ef] at q2;exact q2.elim
       |aG=>rw[ef] at q2;exact q2.elim
      |false =>
       rw[if_neg zal] at q2;refine AZ ⟨_,by omega,w5,S5,Dl,cA,Bq.1,Bq.2.1,Bq.2.2.1,Bq.2.2.2.1,Bq.2.2.2.2,hr5.unx,sl4.mono le5,bJ.mono Ec _ _ ra,jg,rfl,q2⟩
     |ex n S5=>rw[ec] at q2;exact q2.elim
     |aG=>rw[ec] at q2;exact q2.elim
    |ex n S4=>rw[eb] at q2;exact q2.elim
    |aG=>rw[eb] at q2;exact q2.elim
   ·exact q2.elim
  ·have e:i=s.items.length:=by omega
   subst e;rw[List.drop_length] at q2;unfold c8 at q2;split at q2
   ·rename_i hc
    refine .inl ⟨(it w2 S2 H2 _ eK.symm hn iP hF dQ hc).2 rfl,?_⟩
    have hF2:w2.F D=none:=by rw[dQ.F];unfold Fz;rw[if_pos (.inr (by rw[hDx];simp))]
    cases ce with
    |val =>
     have q2:bA RT G w1 (.ok (.ls cA) S2) Q:=q2
     refine q2 _ _ _ ?_ (dQ.agS eh hhD) ?_
     ·exact⟨eK,hn,iP,λb o e=>kF hF2 (hF b o e),rfl⟩
     ·unfold RT
      exact⟨D,xs,rfl,ay,bJ.xg (w:=w2) rfl (zah _) (λ_ _=>rfl) (λb o e=>kF hF2 e) ra⟩
    |cel =>
     have q2:bA RT G w1 (.ok (.hd S2.length) (S2++[.bM cA])) Q:=q2
     have lu:=({w2 with hid:=w1.hid}:Wd).tH D
     refine q2 _ _ _ ?_ (dQ.RQ eh hhD (c:=.bM cA) rfl ⟨xs,dQ.hid D _ hDx,?_⟩) ?_
     ·exact⟨eK,zai hn lu.n,λi hi=>(lu.r i (zak hi hn)).trans (iP i hi),λb o e=>hF b o e,rfl⟩
     ·exact bJ.mono lu _ _ (bJ.bD _ _ _ ra)
     ·unfold RT
      refine⟨by show S2.length<w2.n+1;rw[dQ.n];exact zbi _,?_⟩
      show V.ref D=V.ref (if S2.length=w2.n then D else w2.ρ S2.length)
      rw[if_pos dQ.n.symm]
   ·exact q2.elim
theorem iH (S:dD X F T fr sc)(hi:Qo G k X target d9 fi)(hg:∀C fp s H xe,L5 G.nx k (qP X (F++T) sc C fp s H xe) target bt)(Rn:∀C fp s H xe,Jd G.nx k (qP X (F++T) sc C fp s H xe) rB fc)
  (he:∀C fp s H xe,TV G.nx k (qP X (F++T) sc C fp s H xe) v8 fe) (hs:autoParam (∀x,foldedSetIterable d9 X.env x=pure x) zp_3) (hk:autoParam (0<k) zp_2):TV G k X (.ListComp v8 [⟨target,d9,rB,0⟩] sc pos) (gq fi fr T.length bt fc fe):=.mk<|λo =>
 (Rr S (o.fX hk) (hi o) (λC fp s H xe=>hg C fp s H xe o.comp) (λC fp s H xe=>Rn C fp s H xe o.comp) (λC fp s H xe=>he C fp s H xe o.comp) hs).wk λ_ _ _ h=>Gn .val o.K h
theorem zD (S:dD X F T fr sc)(hi:Qo G k X target d9 fi)(hg:∀C fp s H xe,L5 G.nx k (qP X (F++T) sc C fp s H xe) target bt)(Rn:∀C fp s H xe,Jd G.nx k (qP X (F++T) sc C fp s H xe) rB fc)
  (he:∀C fp s H xe,TV G.nx k (qP X (F++T) sc C fp s H xe) v8 fe) (hN:X.N.Nodup) (hiy:X.N[i0]? = some y) (hly:X.env.scope.names.lookup y=some .local) (hex:X.ex=[])
  (RG:autoParam (swapsWith (.ListComp v8 [⟨target,d9,rB,0⟩] sc pos) (some (.Name y py)) Z3.line X.env=pure true) zp_0) (hs:autoParam (∀x,foldedSetIterable d9 X.env x=pure x) zp_3) (hk:autoParam (0<k) zp_2):
  zu G k X (.Assign [.Name y py] (.ListComp v8 [⟨target,d9,rB,0⟩] sc pos) Z3) (aP i0 (gq fi fr T.length bt fc fe)):=.mk<|λo =>
 (RE S (o.fX hk) (hi o) (λC fp s H xe=>hg C fp s H xe o.comp) (λC fp s H xe=>Rn C fp s H xe o.comp) (λC fp s H xe=>he C fp s H xe o.comp) hN hiy hly hex RG hs).wk λD σ H h=>Gn .val o.K (Mp h)
end
noncomputable abbrev Fn:=List Tr->Cs->R Tr
noncomputable def dm (K:W.Frag)(cl:Str->Addr)(n:Nat)(q:Fn):Sp:=λvs H Q E=>∃w S ts,HR ⟨K,cl,E⟩ w S H/\bJ w ts vs/\ts.length=n/\bA RT ⟨K,cl,E⟩ w (q ts S) Q
noncomputable def e_ (n:Nat)(q:Fn)(fr:En->Cs->R (List Tr)):Em:=λτ S=>(fr τ S).aE λts S1=>if ts.length=n then q ts S1 else .aG
section
variable {G:Gx}{k j n:Nat}{X:Cx}{CX:AM}{f C:Addr}{fd:FuncData}{ps:List Str}{q:Fn}{x m:Str}{p pos eY g7:Pos}{e o:Expr}{es:List Expr}{fr:En->Cs->R (List Tr)}{fo:Em}
theorem aho (h:fS G (e_ n q fr) σ H Q):Vb (dm G.K G.cl n q) [] G.E (D3 G fr) σ H Q:=by
 obtain⟨w,S,τ,hr,sl,qq⟩:=h;refine⟨w,S,τ,hr,sl,(bA.aE qq).mono λvs H1 cy=>?_⟩
 obtain⟨w1,S1,ts,dz,bN,r1,_,q1⟩:=cy;split at q1
 ·rename_i hn
  rw[zaw];exact⟨w1,S1,ts,bN,r1,hn,q1⟩
 ·exact q1.elim
theorem Ss (F:aN X.prog X.w X.K X.mg X.base CX j f fd ps (dm G.K G.cl n q))(hj:j<=k)(hm:X.mg x=some (.ref f))(hk:W.keepIn X.K (.ref f)=true)(hb:d8 X.K fd ps [])(hx:fB CX X G.E)(ha:we G k X (e::es) fr)
  (hg:autoParam (Gl X x) zp_0) (sS:autoParam ((x == ("__debug__" : Str))=false) zp_1) (he:autoParam (dN e=false) zp_0) (hpl:autoParam (cX es=true) zp_0) (xj:autoParam (0<k) zp_2):
  TV G k X (.Call (.Name x p) (e::es) [] pos) (e_ n q fr):=.mk<|λox=>(QW F ((ox.room xj).mono hj) hg hm hk hb .nil hx (ha ox) sS (dF he) (fD hpl)).wk λ_ _ _ h=>aho h
noncomputable def aF (c m:Str)(n:Nat)(q:Fn)(fo:Em)(fr:En->Cs->R (List Tr)):Em:=λτ S=>(fo τ S).aE λt S1=>match t with
 |.hd i=>(match iC S1 i with
  |some (c',fs)=>if c'=c/\(aV m fs).isNone=true then (fr τ S1).aE λts S2=>(if (t::ts).length=n then q (t::ts) S2 else .aG) else .aG
  |none=>.aG)
 |_=>.aG
theorem zE (h:fS G (aF c m n q fo fr) σ H Q):FO (G.cl c) m (dm G.K G.cl n q) [] G.E (fS G fo) (D3 G fr) σ H Q:=by
 obtain⟨w,S,τ,hr,sl,qq⟩:=h;refine⟨w,S,τ,hr,sl,(bA.aE qq).mono λv H1 dR=>?_⟩
 obtain⟨w1,S1,t,dz,bN,r1,_,q1⟩:=dR;split at q1
 ·split at q1
  ·rename_i c' fs ei
   split at q1
   ·rename_i hc
    obtain⟨rfl,hm⟩:=hc;obtain⟨dx,tG,h1,h2⟩:=bN.cell _ _ (fE ei)
    refine⟨_,dx,tG,r1.cY.2,h1,(gp (k:=m) h2).2 (zdw.mp hm),w1,S1,τ,bN,sl.mono dz,(bA.aE q1).mono λvs H2 fC=>?_⟩
    obtain⟨w2,S2,ts,fM,dQ,r2,_,q2⟩:=fC;split at q2
    ·rename_i hn
     rw[zaw];exact⟨w2,S2,_,dQ,.cons (RT.mono fM _ _ r1) r2,hn,q2⟩
    ·exact q2.elim
   ·exact q1.elim
  ·exact q1.elim
 ·exact q1.elim
theorem bf (hc:rS G.K (G.cl c))(hM:cN G.K (G.cl c) m f)(F:aN X.prog X.w X.K X.mg X.base CX j f fd ps (dm G.K G.cl n q))(hj:j<=k)(hb:d8 X.K fd ps [])(hx:fB CX X G.E)(ho:TV G k X o fo)(ha:we G k X (e::es) fr)
  (pQ:autoParam (dN e=false) zp_0) (hpl:autoParam (cX es=true) zp_0)
  (ht:autoParam (eval (.Call (.Attribute o m eY) (e::es) [] pos) X.env=(do
   let ov <-eval o X.env
   standAt eY.atName
   let (f,first) <-holding [ov] (getMethod ov m pl)
   callWith pos f first (backTo pos (starEach (e::es) X.env)) (backToKw pos (keywordEach [] X.env)))) zp_0) (xj:autoParam (0<k) zp_2):TV G k X (.Call (.Attribute o m eY) (e::es) [] pos) (aF c m n q fo fr):=.mk<|λox =>
 (FP (ho ox) (by rw[ox.K];exact hc) (by rw[ox.K];exact hM) F ((ox.room xj).mono hj) hb .nil hx (ha ox) (dF pQ) (fD hpl) ht).wk λ_ _ _ h=>zE h
theorem aJ (hc:rS G.K (G.cl c))(hM:cN G.K (G.cl c) m f)(F:aN X.prog X.w X.K X.mg X.base CX j f fd ps (dm G.K G.cl n q))(hj:j<=k)(hb:d8 X.K fd ps [])(hx:fB CX X G.E)(ho:TV G k X o fo)
  (ht:autoParam (eval (.Call (.Attribute o m eY) [] [] pos) X.env=(do
   let ov <-eval o X.env
   standAt eY.atName
   let (f,first) <-holding [ov] (getMethod ov m pl)
   callWith pos f first (backTo pos (starEach [] X.env)) (backToKw pos (keywordEach [] X.env)))) zp_0) (xj:autoParam (0<k) zp_2):TV G k X (.Call (.Attribute o m eY) [] [] pos) (aF c m n q fo ak):=.mk<|λox =>
 (K0 (ho ox) (by rw[ox.K];exact hc) (by rw[ox.K];exact hM) F ((ox.room xj).mono hj) hb .nil hx ht).wk λσ H Q h=>by
  obtain⟨w,S,τ,hr,sl,qq⟩:=zE h;refine⟨w,S,τ,hr,sl,qq.mono λv H1 ⟨a,dx,fs,e1,h1,hl,⟨w1,S1,dY,bN,DY,q1⟩⟩=>⟨a,dx,fs,e1,h1,hl,?_⟩⟩
  exact q1 w1 H1 [] (.refl _) bN .nil
noncomputable def mw (c:Str)(n:Nat)(q:Fn)(fr:En->Cs->R (List Tr)):Em:=λτ S=>(fr τ S).aE λts S1=>if ts.length+1=n then (q (.hd S1.length::ts) (S1++[.dZ c []])).aE λr S2=>(match r with|.br=>.ok (.hd S1.length) S2|_=>.aG) else .aG
theorem Su (h:fS G (mw c n q fr) σ H Q):Vc (G.cl c) (dm G.K G.cl n q) [] G.E (D3 G fr) σ H Q:=by
 obtain⟨w,S,τ,hr,sl,qq⟩:=h;refine⟨w,S,τ,hr,sl,(bA.aE qq).mono λvs H1 ⟨w1,S1,ts,dz,bN,r1,_,q1⟩=>λx dx hx hdx ne=>?_⟩
 split at q1
 ·rename_i hn
  obtain⟨h2,fM⟩:=bN.lay hdx (.sD x)
  have hx2:bF H1 dx (.sD x) x=none:=by rw[au (zbc ne)];exact hx
  obtain⟨h3,l8⟩:=h2.IQ hx2 (o:=.dZ (G.cl c) dx []) (c:=.dZ c []) rfl ⟨dx,[],ay,.nil⟩
  have iP:(({w1 with F:=bF w1.F dx (.sD x)}:Wd).up x).ρ S1.length=x:=by
   show (if S1.length=w1.n then x else w1.ρ S1.length)=x
   rw[if_pos bN.n.symm]
  rw[zaw];refine⟨_,_,.hd S1.length::ts,h3,.cons ?_ (bJ.mono (fM.trans l8) _ _ r1),by simpa using hn,(bA.aE (bA.wd (fM.trans l8) q1)).mono λv H4 ⟨w4,S4,t4,L7,Kl,r4,_,q4⟩=>?_⟩
  ·unfold RT
   exact⟨by show S1.length<w1.n+1;rw[bN.n];exact zbi _,by rw[iP]⟩
  ·split at q4
   ·refine⟨iX r4,q4 w4 H4 _ (.refl _) Kl ?_⟩
    have jg:S1.length<(({w1 with F:=bF w1.F dx (.sD x)}:Wd).up x).n:=by show S1.length<w1.n+1;rw[bN.n];exact zbi _
    unfold RT;exact⟨zak jg L7.n,by rw[L7.r _ jg,iP]⟩
   ·exact q4.elim
 ·exact q1.elim
theorem kP (M:Mk G.K (G.cl c) f)(F:aN X.prog X.w X.K X.mg X.base CX j f fd ps (dm G.K G.cl n q))(hj:j+1<=k)(hm:X.mg x=some (.ref (G.cl c)))(hb:d8 X.K fd ps [])(hx:fB CX X G.E)(ha:we G k X (e::es) fr)
  (hg:autoParam (Gl X x) zp_0) (sS:autoParam ((x == ("__debug__" : Str))=false) zp_1) (he:autoParam (dN e=false) zp_0) (hpl:autoParam (cX es=true) zp_0) (xj:autoParam (0<k) zp_2):
  TV G k X (.Call (.Name x p) (e::es) [] pos) (mw c n q fr):=.mk<|λox=>(QX (by rw[ox.K];exact M) F ((ox.room xj).mono hj) hg hm hb .nil hx (ha ox) sS (dF he) (fD hpl)).wk λ_ _ _ h=>Su h
noncomputable def gA (N:List Str)(ts:List Tr):En:=ts.map some++List.replicate (N.length - ts.length) none
noncomputable def cT (N:List Str)(sb:Sm):Fn:=λts S=>match sb (gA N ts) S with|.nx _ S'=>.ok .br S' | .rt t S'=>.ok t S' | _=>.aG
theorem Sl.dg (N:List Str)(r:bJ w ts vs):Sl w (gA N ts) (dg N vs):=by
 unfold gA L2.dg;refine⟨by simp[r.len],λi t e=>?_⟩
 by_cases hi:i<ts.length
 ·rw[zaj (by simpa using hi),zaq] at e
  rw[zaj (by rw[zae,r.len];exact hi),zaq]
  cases et:ts[i]? with
  |none=>rw[et] at e;cases e
  |some u =>
   rw[et] at e;cases e;obtain⟨v,ev,rv⟩:=r.get et;exact⟨v,by rw[ev];rfl,rv⟩
 ·rw[zat (by simpa using hi)] at e
  rw[zcF] at e;split at e<;>cases e
variable {P:Program}{w:World}{K:W.Frag}{mg:Str->Option Value}{base:Heap}{cl:Str->Addr}{N:List Str}{bW:Str}{st:Stmt}{sb:Sm}
theorem aU (F:Ll K x bW st f fd)(Sc:aq N ps (aj st))
  (hb:∀eZ A outer s H E,IS ⟨K,cl,E0⟩ k (ic dJ P w K mg base N bW (aj st) f eZ A outer s H E).C_ (cS st) sb):aN P w K mg base dJ (k+1) f fd ps (dm K cl ps.length (cT N sb)):=by
 refine F.ok Sc (λvs H Q E jN=>by obtain⟨w,S,ts,hr,r,hn,_⟩:=jN;rw[r.len,hn]) λeZ A outer s H vs Q E hr jQ=>?_
 obtain⟨w,S,ts,Qp,r,hn,q⟩:=jQ;refine⟨_,hb eZ A outer s H E ⟨rfl,λ_=>rfl,λ_=>hr,zcB (Nat.add_le_add_right (zcm _ _) 200) hr.un⟩,w,S,gA N ts,⟨Qp.K,Qp.n,Qp.F,λi c e=>Qp.nx.cell i c e,Qp.inj,Qp.hid,Qp.jP,Qp.hl⟩,Sl.dg N r,?_⟩
 have conv:∀{w' S' H'},HR (⟨K,cl,E0⟩:Gx) w' S' H'->HR ⟨K,cl,E⟩ w' S' H':=λh=>HR.unx (G:=⟨K,cl,E⟩) h
 unfold cT at q;cases e:sb (gA N ts) S with
 |nx o8 S'=>rw[e] at q;exact λw' H' d7 le ql Kw=>q w' H' _ le (conv ql) tK
 |rt t S'=>rw[e] at q;exact λw' H' v le ql rv=>q w' H' v le (conv ql) rv
 |bk o8 S'=>rw[e] at q;exact q.elim
 |ct o8 S'=>rw[e] at q;exact q.elim
 |ex o8 S'=>rw[e] at q;exact q.elim
 |aG=>rw[e] at q;exact q.elim
mutual
noncomputable def Tr.aE (m:Nat):Tr->Bool
 |.tp l=>Tr.jD m l
 |.ls l=>Tr.jD m l
 |.kt l=>Tr.jD m l
 |.kl l=>Tr.jD m l
 |.hd n=>decide (n<m)
 |_=>true
noncomputable def Tr.jD (m:Nat):List Tr->Bool
 |[]=>true
 |t::l=>Tr.aE m t && Tr.jD m l
end
mutual
theorem RT.aE {w:Wd}:∀(t:Tr) (v:V),RT w t v->t.aE w.n=true
 |.tp l,v,r=>by unfold RT at r;unfold Tr.aE;obtain⟨_,xs,_,_,r⟩:=r;exact bJ.aE l xs r
 |.ls l,v,r=>by unfold RT at r;unfold Tr.aE;obtain⟨_,xs,_,_,r⟩:=r;exact bJ.aE l xs r
 |.kt l,v,r=>by unfold RT at r;unfold Tr.aE;obtain⟨_,xs,_,_,r⟩:=r;exact bJ.aE l xs r
 |.kl l,v,r=>by unfold RT at r;unfold Tr.aE;obtain⟨_,xs,_,_,r⟩:=r;exact bJ.aE l xs r
 |.hd n,v,r=>by unfold Tr.aE;exact decide_eq_true r.cY.1
 |.br,v,r=>by unfold Tr.aE;rfl
 |.bl _,v,r=>by unfold Tr.aE;rfl
 |.int _,v,r=>by unfold Tr.aE;rfl
 |.str _,v,r=>by unfold Tr.aE;rfl
theorem bJ.aE {w:Wd}:∀(l:List Tr) (xs:List V),bJ w l xs->Tr.jD w.n l=true
 |[],xs,r=>by unfold Tr.jD;rfl
 |t::l,xs,r=>by
  obtain⟨x,r',rfl,h1,h2⟩:=r.bE;unfold Tr.jD;rw[RT.aE t x h1,bJ.aE l r' h2];rfl
end
mutual
theorem RT.ny {w:Wd}{m:Nat}(hF:∀b o,w.F b=some o->F' b=some o):∀(t:Tr) (v:V),RT w t v->t.aE m=true->RT {w with n:=m,F:=F' } t v
 |.tp l,v,r,h=>by unfold RT at r ⊢;unfold Tr.aE at h;obtain⟨a,xs,e,s,r⟩:=r;exact⟨a,xs,e,hF _ _ s,bJ.ny hF l xs r h⟩
 |.ls l,v,r,h=>by unfold RT at r ⊢;unfold Tr.aE at h;obtain⟨a,xs,e,s,r⟩:=r;exact⟨a,xs,e,hF _ _ s,bJ.ny hF l xs r h⟩
 |.kt l,v,r,h=>by unfold RT at r ⊢;unfold Tr.aE at h;obtain⟨a,xs,e,s,r⟩:=r;exact⟨a,xs,e,s.mono hF,bJ.ny hF l xs r h⟩
 |.kl l,v,r,h=>by unfold RT at r ⊢;unfold Tr.aE at h;obtain⟨a,xs,e,s,r⟩:=r;exact⟨a,xs,e,s.mono hF,bJ.ny hF l xs r h⟩
 |.hd n,v,r,h=>by unfold RT;unfold Tr.aE at h;exact⟨of_decide_eq_true h,r.cY.2⟩
 |.br,v,r,h=>by unfold RT at r ⊢;exact r
 |.bl _,v,r,h=>by unfold RT at r ⊢;exact r
 |.int _,v,r,h=>by unfold RT at r ⊢;exact r
 |.str _,v,r,h=>by unfold RT at r ⊢;exact r
theorem bJ.ny {w:Wd}{m:Nat}(hF:∀b o,w.F b=some o->F' b=some o):∀(l:List Tr) (xs:List V),bJ w l xs->Tr.jD m l=true->bJ {w with n:=m,F:=F' } l xs
 |[],xs,r,h=>by rw[r.cC];exact .nil
 |t::l,xs,r,h=>by
  obtain⟨x,r',rfl,h1,h2⟩:=r.bE;unfold Tr.jD at h;have h:=zbf.mp h;exact .cons (RT.ny hF t x h1 h.1) (bJ.ny hF l r' h2 h.2)
end
noncomputable def ahp (m:Nat):Ce->Bool
 |.tF=>true
 |.bM l=>Tr.jD m l
 |.jn l=>Tr.jD m (l.map Prod.snd)
 |.dZ _ l=>Tr.jD m (l.map Prod.snd)
 |.rF _ l=>Tr.jD m (l.map Prod.snd)
 |.Ql l=>Tr.jD m (l.map Prod.snd)
 |.v_ l=>Tr.jD m (l.map Prod.snd)
 |.D0 l=>Tr.jD m (l.map Prod.snd)
theorem bG.aE {w:Wd}(h:bG G w H a c):ahp w.n c=true:=by
 cases c with
 |tF=>rfl
 |bM l=>obtain⟨xs,_,r⟩:=h;exact bJ.aE _ _ r
 |jn l=>obtain⟨xs,_,r⟩:=h;exact bJ.aE _ _ r.2
 |dZ c l=>obtain⟨_,xs,_,r⟩:=h;exact bJ.aE _ _ r.2
 |rF c l=>obtain⟨_,_,xs,_,_,_,_,_,r⟩:=h;exact bJ.aE _ _ r.2
 |Ql l=>obtain⟨xs,_,r⟩:=h;exact bJ.aE _ _ r.2
 |v_ l=>obtain⟨_,xs,_,r⟩:=h;exact bJ.aE _ _ r.2
 |D0 l=>obtain⟨_,xs,_,r⟩:=h;exact bJ.aE _ _ r.2
theorem bG.cut {w:Wd}{m:Nat}(hF:∀b o,w.F b=Option.some o->F' b=Option.some o)(h:bG G w H a c)(hb:ahp m c=true):bG G {w with n:=m,F:=F' } H a c:=by
 cases c with
 |tF=>trivial
 |bM l=>obtain⟨xs,e,r⟩:=h;exact⟨xs,e,bJ.ny hF _ _ r hb⟩
 |jn l=>obtain⟨xs,e,r⟩:=h;exact⟨xs,e,r.1,bJ.ny hF _ _ r.2 hb⟩
 |dZ c l=>obtain⟨dx,xs,e,r⟩:=h;exact⟨dx,xs,e,r.1,bJ.ny hF _ _ r.2 hb⟩
 |rF c l=>obtain⟨T,d,xs,e,e2,e3,n1,n2,r⟩:=h;exact⟨T,d,xs,e,hF _ _ e2,hF _ _ e3,n1,n2,r.1,bJ.ny hF _ _ r.2 hb⟩
 |Ql l=>obtain⟨xs,e,r⟩:=h;exact⟨xs,e,r.1,bJ.ny hF _ _ r.2 hb⟩
 |v_ l=>obtain⟨o,xs,e,r⟩:=h;exact⟨o,xs,hF _ _ e,r.1,bJ.ny hF _ _ r.2 hb⟩
 |D0 l=>obtain⟨o,xs,e,r⟩:=h;exact⟨o,xs,hF _ _ e,r.1,bJ.ny hF _ _ r.2 hb⟩
noncomputable def nN (m:Nat)(S:Cs)(t:Tr):Option Tr:=match t with
 |.hd n=>if n<m then some (.hd n) else (match cL S n with|some l=>if Tr.jD m l=true then some (.ls l) else none|none=>none)
 |t=>if t.aE m=true then some t else none
open Classical in
noncomputable def lB (q:Fn):Fn:=λts S=>match q ts S with
 |.ok t S1=>if S1.take S.length=S then (match nN S.length S1 t with|some u=>.ok u S|none=>.aG) else .aG
 |.ex n S1=>.ex n S1
 |.aG=>.aG
open Classical in
theorem Sv {H:Hp}(h:dm K cl n (lB q) vs H Q E):dm K cl n q vs H Q E:=by
 obtain⟨w,S,ts,hr,r,hn,qq⟩:=h;refine⟨w,S,ts,hr,r,hn,?_⟩
 unfold lB at qq;cases e:q ts S with
 |ex m S1=>rw[e] at qq;exact qq
 |aG=>rw[e] at qq;exact qq
 |ok t S1 =>
  rw[e] at qq;have qq:bA RT ⟨K,cl,E⟩ w (if S1.take S.length=S then (match nN S.length S1 t with|some u=>.ok u S|none=>.aG) else .aG) Q:=qq
  split at qq
  ·rename_i hS
   split at qq
   ·rename_i u eu
    intro w1 H1 v dz bN rv;have hm:S.length<=S1.length:=by
     have:=congrArg List.length hS
     rw[zbj] at this;omega
    have hF:∀b o,w1.F b=some o->Fz w1.ρ w1.hid (S1.take S.length) H1 b=some o:=λb o e=>aal b o (by rw[<-bN.F];exact e)
    have dQ:=bN.cut hm λi c ec=>by
     have hi:=(zab.mp ec).1
     rw[zbj] at hi;have ec1:S1[i]? = some c:=by rw[zbz (by omega)] at ec;exact ec
     rw[hS] at ec;have hb:=(hr.cell i c ec).aE
     rw[hr.n] at hb;exact (bN.cell i c ec1).cut hF hb
    have fM:w.le {w1 with n:=S.length,F:=Fz w1.ρ w1.hid (S1.take S.length) H1}:=⟨dz.K,by show w.n<=S.length;rw[hr.n];exact zah _,dz.r,λb o e=>hF b o (dz.F b o e),dz.hid⟩
    rw[hS] at dQ fM hF;refine qq _ _ _ fM dQ ?_
    unfold nN at eu;split at eu
    ·rename_i n
     split at eu
     ·cases eu
      rename_i jg;unfold RT;exact⟨jg,rv.cY.2⟩
     ·rename_i hge
      split at eu
      ·rename_i l el
       split at eu
       ·rename_i hb
        cases eu;obtain⟨xs,h1,h2⟩:=bN.cell _ _ (dh el)
        have lv:eS S1 n:=⟨_,dh el,rfl⟩
        unfold RT;refine⟨_,xs,rv.cY.2,?_,bJ.ny hF _ _ h2 hb⟩
        show Fz w1.ρ w1.hid S H1 (w1.ρ n)=_
        unfold Fz;rw[if_neg,h1];rintro (⟨i,li,ei⟩|z)
        ·have li1:eS S1 i:=by
          obtain⟨c,ec,nc⟩:=li;have hi:=(zab.mp ec).1
          rw[<-hS,zbz (by omega)] at ec
          exact⟨c,ec,nc⟩
         have:=bN.inj i n li1 lv ei
         subst this;exact hge li.lt
        ·exact z (bN.jP n lv)
       ·cases eu
      ·cases eu
    ·split at eu
     ·cases eu
      exact RT.ny hF _ _ rv (by assumption)
     ·cases eu
   ·exact qq.elim
  ·exact qq.elim
theorem aN.pure (F:aN P w K mg base CX j f fd ps (dm K cl n q)):aN P w K mg base CX j f fd ps (dm K cl n (lB q)):=F.imp λ_ _ _ _ h=>Sv h
end
section
variable {G:Gx}{k:Nat}{X:Cx}{a b c o e kx vx:Expr}{es:List Expr}{ks:List (Option Expr)}{vs:List Expr}{fo fe ff fk fv:Em}{pos eY g7:Pos}
noncomputable def Ef:Em:=λ_ S=>.ok (.hd S.length) (S++[.jn []])
theorem Ms:TV G k X (.Dict [] [] pos) Ef:=.mk<|λ_=>K6.wk λσ H Q h=>by
 obtain⟨w,S,τ,hr,sl,q⟩:=h;intro p hp;obtain⟨h2,le⟩:=hr.IQ (c:=.jn []) hp (o:=.dK []) rfl ⟨[],ay,.nil⟩
 refine q _ _ _ le h2 ?_
 unfold RT;exact⟨by show S.length<w.n+1;rw[hr.n];exact zbi _,by show V.ref p=V.ref (if S.length=w.n then p else w.ρ S.length);rw[if_pos hr.n.symm]⟩
noncomputable def Je:List (Em×Em)->En->Cs->R (List (dI×Tr))
 |[],_,S=>.ok [] S
 | (fk,fv)::r,τ,S=>(fk τ S).aE λt S1=>(fv τ S1).aE λu S2=>(Je r τ S2).aE λl S3=>match jo t with|some j=>.ok ((j,u)::l) S3|none=>.aG
noncomputable def Mu (ps:List (Em×Em)):Em:=λτ S=>(Je ps τ (S++[.jn []])).aE λl S1=>match tP S1 S.length with
 |some []=>if l.length<=15 then .ok (.hd S.length) (S1.set S.length (.jn (fN [] l))) else .aG
 |_=>.aG
noncomputable def Mv (G:Gx)(ps:List (Em×Em)):List (TE×TE):=ps.map λp=>(fS G p.1,fS G p.2)
structure TVP (G:Gx) (k:Nat) (X:Cx) (pos:Pos) (ks:List (Option Expr)) (vs:List Expr) (ps:List (Em×Em)):Prop where
 kj:jy G k X->PPs X pos ks vs (Mv G ps)
noncomputable instance {G:Gx}{k:Nat}{X:Cx}{pos:Pos}{ks:List (Option Expr)}{vs:List Expr}{ps:List (Em×Em)}:CoeFun (TVP G k X pos ks vs ps) (λ_=>jy G k X->PPs X pos ks vs (Mv G ps)):=⟨TVP.kj⟩
theorem aaU:TVP G k X pos [] [] []:=.mk<|λ_=>Q5
theorem Sw (hk:TV G k X kx fk)(hv:TV G k X vx fv)(hr:TVP G k X pos ks vs ps):TVP G k X pos (some kx::ks) (vx::vs) ((fk,fv)::ps):=.mk<|λo=>K7 (hk o) (hv o) (hr o)
theorem Mw:∀(ps:List (Em×Em)) {w:Wd} {S:Cs} {τ:En} {σ:St} {H:Hp} {Q:List (V×V)->Hp->Prop},HR G w S H->Sl w τ σ ->
  bA (λw (l:List (dI×Tr)) (m:List (V×V))=>∃aO,m=aO.map (λkv=>(kV kv.1,kv.2))/\RK w l aO) G w (Je ps τ S) Q->yX (Mv G ps) σ H Q
 |[],w,S,τ,σ,H,Q,hr,sl,q=>q w H [] (.refl w) hr ⟨[],rfl,.nil⟩
 | (fk,fv)::r,w,S,τ,σ,H,Q,hr,sl,q=>by
  refine⟨w,S,τ,hr,sl,(bA.aE q).mono λx H1 cy=>?_⟩
  obtain⟨w1,S1,t,dz,bN,r1,_,q1⟩:=cy;refine⟨w1,S1,τ,bN,sl.mono dz,(bA.aE q1).mono λy H2 dR=>?_⟩
  obtain⟨w2,S2,u,fM,dQ,r2,_,q2⟩:=dR;refine Mw r dQ ((sl.mono dz).mono fM) ((bA.aE q2).mono λm H3 fC=>?_)
  obtain⟨w3,S3,l,l8,qg,⟨aO,em,rk⟩,_,q3⟩:=fC
  split at q3
  ·rename_i j ej
   refine q3 w3 H3 _ (.refl _) qg ⟨(j,y)::aO,?_,.cons (RT.mono l8 _ _ r2) rk⟩
   rw[em,zas,g9 ej r1]
  ·exact q3.elim
theorem Sx (h:TVP G k X pos ks vs ps)(K8:autoParam (ks.all (·.isSome)=true) zp_0)(hl:autoParam (ks.length=vs.length) zp_0)(h0:ks≠[]:=by simp)(h15:autoParam (ks.length<=15) zp_1):TV G k X (.Dict ks vs pos) (Mu ps):=.mk<|λox=>(Q6 (h ox) K8 hl h0 h15).wk λσ H Q h=>by
 obtain⟨w,S,τ,hr,sl,q⟩:=h;intro p hp;obtain⟨h2,le⟩:=hr.IQ (c:=.jn []) hp (o:=.dK []) rfl ⟨[],ay,.nil⟩
 have jg:S.length<(w.up p).n:=by show S.length<w.n+1;rw[hr.n];exact zbi _
 have iP:(w.up p).ρ S.length=p:=by show (if S.length=w.n then p else w.ρ S.length)=p;rw[if_pos hr.n.symm]
 refine Mw ps h2 (sl.mono le) ((bA.aE (bA.wd le q)).mono λm H2 iU=>?_)
 obtain⟨w2,S2,l,fM,dQ,⟨aO,em,rk⟩,_,q2⟩:=iU
 split at q2
 ·rename_i ed
  split at q2
  ·rename_i h15
   obtain⟨aq9,h3,h4⟩:=dQ.cell _ _ (gO ed)
   have aaV:w2.ρ S.length=p:=(fM.r _ jg).trans iP
   rw[aaV,h4.cC] at h3;refine⟨h3,aO,em,by rw[rk.len];exact h15,?_⟩
   have h5:HR G w2 (S2.set S.length (.jn (fN [] l))) (bF H2 (w2.ρ S.length) (.dK (gm [] aO))):=dQ.DI (gO ed) rfl rfl ⟨_,ay,RK.AU rk .nil⟩
   rw[aaV] at h5;refine q2 w2 _ _ (.refl _) h5 ?_
   unfold RT;exact⟨zak jg fM.n,by rw[aaV]⟩
  ·exact q2.elim
 ·exact q2.elim
noncomputable def Gp (fo fe ff:Em):Em:=λτ S=>(fo τ S).aE λt S1=>if ckD S1 t=true then (fe τ S1).aE λj S2=>(ff τ S2).aE λu S3=>(match Qm S3 t,jo j with|some m,some q=>.ok ((aV q m).getD u) S3|_,_=>.aG) else .aG
theorem aaW (hr:HR G w S H)(r:RT w t v)(h:ckD S t=true):∃n,t = .hd n/\v = .ref (w.ρ n)/\IsD H (w.ρ n):=by
 unfold ckD at h;obtain⟨m,em⟩:=zbR.mp h;obtain⟨n,aO,e1,_,e2,h1,_⟩:=zx hr r em;exact⟨n,e1,e2,.inl ⟨aO,.inl h1⟩⟩
theorem Jf {j:dI}(R:RK w m aO)(ru:RT w u z):RT w ((aV j m).getD u) ((lM aO j).getD z):=by
 obtain⟨h1,h2⟩:=oX (k:=j) R
 cases e:aV j m with
 |none=>rw[h2 e];exact ru
 |some t=>obtain⟨v,ev,rv⟩:=h1 t e;rw[ev];exact rv
theorem Gq (ho:TV G k X o fo)(he:TV G k X e fe)(hf:TV G k X c ff)(m:autoParam (M2 X o "get" eY e c g7) zp_9):TV G k X (.Call (.Attribute o "get" eY) [e,c] [] g7) (Gp fo fe ff):=.mk<|λox=>(K9 ox.hu1 (ho ox) (he ox) (hf ox) m).wk λσ H Q h=>by
 obtain⟨w,S,τ,hr,sl,q⟩:=h;refine⟨w,S,τ,hr,sl,(bA.aE q).mono λx H1 iV=>?_⟩
 obtain⟨w1,S1,t,dz,bN,r1,_,q1⟩:=iV;split at q1
 ·rename_i hck
  obtain⟨n,rfl,e2,hd⟩:=aaW bN r1 hck;refine⟨_,e2,hd,w1,S1,τ,bN,sl.mono dz,(bA.aE q1).mono λy H2 l6=>?_⟩
  obtain⟨w2,S2,j,fM,dQ,r2,_,q2⟩:=l6;refine⟨w2,S2,τ,dQ,(sl.mono dz).mono fM,(bA.aE q2).mono λz H3 jN=>?_⟩
  obtain⟨w3,S3,u,l8,qg,r3,_,q3⟩:=jN;split at q3
  ·rename_i mm qk em ek
   obtain⟨n',aO,e4,_,_,h4,R⟩:=zx qg (RT.mono (fM.trans l8) _ _ r1) em
   cases e4;rw[(fM.trans l8).r _ r1.cY.1] at h4;refine⟨lM aO qk,by rw[g9 ek (RT.mono l8 _ _ r2)];exact nL.k h4,q3 w3 H3 _ (.refl _) qg (Jf R r3)⟩
  ·exact q3.elim
 ·exact q1.elim
noncomputable def aaX (f:Em):Em:=λτ S=>(f τ S).aE λt S1=>match t with
 |.str x=>if x.length<=sizeLine then .ok (.str x) S1 else .aG
 |.int i=>if i.natAbs.log2<1920 then .ok (.str (toString i)) S1 else .aG
 |_=>.aG
theorem aaY (h:TV G k X a fo):TV G k X (.FormattedValue a (-1) none pos) (aaX fo):=.mk<|λox=>(Z0 (h ox)).wk λσ H Q h=>by
 obtain⟨w,S,τ,hr,sl,q⟩:=h;refine⟨w,S,τ,hr,sl,(bA.aE q).mono λx H1 oS=>?_⟩
 obtain⟨w1,S1,t,dz,bN,r1,_,q1⟩:=oS;split at q1
 ·split at q1
  ·exact .inl ⟨_,cg r1,by assumption,q1 w1 H1 _ (.refl _) bN kG⟩
  ·exact q1.elim
 ·split at q1
  ·exact .inr ⟨_,bh r1,by assumption,q1 w1 H1 _ (.refl _) bN kG⟩
  ·exact q1.elim
 ·exact q1.elim
noncomputable def fJ:List Em->Str->Em
 |[],cA,_,S=>if cA.length<=sizeLine then .ok (.str cA) S else .aG
 |f::r,cA,τ,S=>(f τ S).aE λt S1=>match t with|.str y=>if (cA++y).length<=sizeLine then fJ r (cA++y) τ S1 else .aG|_=>.aG
structure TVJ (G:Gx) (k:Nat) (X:Cx) (es:List Expr) (fs:List Em):Prop where
 kj:jy G k X->PJ X es (λcA=>fS G (fJ fs cA))
noncomputable instance {G:Gx}{k:Nat}{X:Cx}{es:List Expr}{fs:List Em}:CoeFun (TVJ G k X es fs) (λ_=>jy G k X->PJ X es (λcA=>fS G (fJ fs cA))):=⟨TVJ.kj⟩
theorem aaZ:TVJ G k X [] []:=.mk<|λ_ cA ah s σ H Q I ⟨w,S,τ,hr,sl,q⟩=>Z2 cA ah s σ H Q I (by
 unfold fJ at q;split at q
 ·exact⟨by assumption,q w H _ (.refl w) hr kG⟩
 ·exact q.elim)
theorem Sy (h1:TV G k X e f)(h2:TVJ G k X es fs):TVJ G k X (e::es) (f::fs):=.mk<|λox cA ah s σ H Q I ⟨w,S,τ,hr,sl,q⟩=>RA (h1 ox) (h2 ox) cA ah s σ H Q I ⟨w,S,τ,hr,sl,(bA.aE q).mono λx H1 iW=>by
 obtain⟨w1,S1,t,dz,bN,r1,_,q1⟩:=iW;split at q1
 ·split at q1
  ·exact⟨_,cg r1,by assumption,w1,S1,τ,bN,sl.mono dz,q1⟩
  ·exact q1.elim
 ·exact q1.elim⟩
theorem SA (h:TVJ G k X (a::b::es) fs):TV G k X (.JoinedStr (a::b::es) pos) (fJ fs Str.empty):=.mk<|λox=>RB (h ox)
end
structure n_ (K:W.Frag) (mg:Str->Option Value) (x:Str) (st:Stmt) (ps:List Str) (f:Addr) (fd:FuncData):Prop where
 F:Ll K x x st f fd
 m:mg x=some (.ref f)
 b:d8 K fd ps []
structure iI (K:W.Frag) (C:Addr) (x bW:Str) (st:Stmt) (ps:List Str) (f:Addr) (fd:FuncData):Prop where
 F:Ll K x bW st f fd
 M:cN K C x f
 b:d8 K fd ps []
structure Mx (K:W.Frag) (mg:Str->Option Value) (x:Str) (C f:Addr):Prop where
 m:mg x=some (.ref C)
 c:rS K C
 k:Mk K C f
theorem aA:fB dJ X E:=λ_ _ _ _ _ _ _ h=>h.elim
noncomputable def RS.seq (r:RS)(g:Sm):RS:=match r with|.nx dY S1=>g dY S1|r=>r
noncomputable def RS.eO (r:RS):R Tr:=match r with|.nx _ S'=>.ok .br S' | .rt t S'=>.ok t S' | _=>.aG
theorem aa0 (f g:Sm)(τ:En)(S:Cs):ao f g τ S=(f τ S).seq g:=rfl
theorem Br (N:List Str)(sb:Sm)(ts:List Tr)(S:Cs):cT N sb ts S=(sb (gA N ts) S).eO:=rfl
theorem SD {α β:Type}{c:Prop}(a b:R α)(k:α -> Cs->R β):(wc c a b).aE k=wc c (a.aE k) (b.aE k):=by unfold wc;split<;>rfl
theorem Mz {α:Type}{c:Prop}(a b:R α)(k:α -> Cs->RS):(wc c a b).bP k=wc c (a.bP k) (b.bP k):=by unfold wc;split<;>rfl
theorem SE {c:Prop}(a b:RS)(g:Sm):(wc c a b).seq g=wc c (a.seq g) (b.seq g):=by unfold wc;split<;>rfl
theorem SG {c:Prop}(a b:RS):(wc c a b).eO=wc c a.eO b.eO:=by unfold wc;split<;>rfl
theorem aa1 (τ:En)(S:Cs)(g:Sm):(RS.nx τ S).seq g=g τ S:=rfl
theorem aa2 (t:Tr)(S:Cs)(g:Sm):(RS.rt t S).seq g = .rt t S:=rfl
theorem SH (g:Sm):RS.aG.seq g = .aG:=rfl
theorem aa3 (τ:En)(S:Cs):(RS.nx τ S).eO = .ok .br S:=rfl
theorem tT (t:Tr)(S:Cs):(RS.rt t S).eO = .ok t S:=rfl
theorem SJ:RS.aG.eO = .aG:=rfl
theorem MA (τ:En)(S:Cs)(g:Sm):Vz (.nx τ S) g=g τ S:=rfl
theorem ahq (τ:En)(S:Cs)(g:Sm):Vz (.ct τ S) g=g τ S:=rfl
theorem VA (t:Tr)(S:Cs)(g:Sm):Vz (.rt t S) g = .rt t S:=rfl
theorem aZ {n:Nat}(h:n<=1000000):(n<=sizeLine)=True:=eq_true (zai h (by decide))
theorem iZ {n:Nat}(h:n<1000000):(n<sizeLine)=True:=eq_true (zak h (by decide))
theorem gX {α:Type}(a:α)(S:Cs):jf (.ok a S) = .ok a S:=rfl
theorem aa4 {p:Prop}[Decidable p]:(decide p=true)=p:=propext decide_eq_true_iff
theorem ahr {α:Type}(a b:α):(if True then a else b)=a:=if_pos trivial
theorem amq {α:Type}(a b:α):(if False then a else b)=b:=if_neg id
theorem MB {b:Tr->En->Cs->R En}{f:Sm}{τ:En}{S:Cs}:fV (λ_=>True) b f [] τ S = .nx τ S:=by unfold fV;rw[if_pos trivial]
theorem Jg {b:Tr->En->Cs->R En}{f:Sm}{t:Tr}{r:List Tr}{τ:En}{S:Cs}:fV (λ_=>True) b f (t::r) τ S=(b t τ S).bP λdY S1=>Vz (f dY S1) (fV (λ_=>True) b f r):=by
 conv=>lhs;unfold fV
 rw[if_pos trivial]
theorem xm {b:Tr->En->Cs->R En}{c:En->Cs->R Bool}{f:Em}{τ:En}{cA:List Tr}{S:Cs}:c8 (λ_=>True) b c f [] τ cA S = .ok cA S:=by unfold c8;rw[if_pos trivial]
theorem tU {b:Tr->En->Cs->R En}{c:En->Cs->R Bool}{f:Em}{t:Tr}{r:List Tr}{τ:En}{cA:List Tr}{S:Cs}:c8 (λ_=>True) b c f (t::r) τ cA S =
  (jf (b t τ S)).aE λdY S1=>(jf (c dY S1)).aE λx S2=>if x=true then (jf (f dY S2)).aE λu S3=>(if cA.length<sizeLine then c8 (λ_=>True) b c f r dY (cA++[u]) S3 else .aG) else c8 (λ_=>True) b c f r dY cA S2:=by
 conv=>lhs;unfold c8
 rw[if_pos trivial]
theorem qp {b:Tr->En->Cs->R En}{c:En->Cs->R Bool}{f:Em}{S:Cs}(τ0:En)(P:En->Prop)(g:Tr->Tr)(keep:Tr->Bool)
  : ∀(l:List Tr) (τ:En) (cA:List Tr),P τ -> (∀t∈l,∀ τ,P τ -> ∃dY,P dY/\b t τ S = .ok dY S/\c dY S = .ok (keep t) S/\(keep t=true->f dY S = .ok (g t) S))->cA.length+l.length<=1000000 ->
   c8 (λ_=>True) b c f l τ cA S = .ok (cA++(l.filter keep).map g) S
 |[],τ,cA,hτ,h,hl=>by rw[xm];simp
 |t::r,τ,cA,hτ,h,hl=>by
  obtain⟨dY,p1,e1,e2,e3⟩:=h t (by simp) τ hτ
  rw[tU,e1,gX,R.e9,e2,gX,R.e9];have Ke:cA.length+1+r.length<=1000000:=by simp at hl;omega
  cases hk:keep t with
  |true =>
   rw[if_pos rfl,e3 hk,gX,R.e9,if_pos (zak (by omega:cA.length<1000000) (by decide)),qp τ0 P g keep r dY _ p1 (λu hu=>h u (by simp[hu])) (by simp;omega)]
   simp[zbV,hk]
  |false =>
   rw[if_neg zal,qp τ0 P g keep r dY _ p1 (λu hu=>h u (by simp[hu])) (by omega)]
   simp[zbV,hk]
theorem SK {α:Type}(l:List α)(a b:α):(l++[a]).set l.length b=l++[b]:=by
 induction l with
 |nil=>rfl
 |cons x r ih=>simp only[zcK,zaB,zdh,ih]
theorem o9 {α:Type}(l:List α)(a:α):(l++[a])[l.length]? = some a:=by simp
theorem Jh (S:Cs)(l:List Tr):cL (S++[.bM l]) S.length=some l:=by unfold cL;rw[o9]
open Classical in
theorem fF {q:Fn}{ts:List Tr}{S S1:Cs}{t u:Tr}(h:q ts S = .ok t S1)(h1:S1.take S.length=S)(h2:nN S.length S1 t=some u):lB q ts S = .ok u S:=by
 unfold lB;rw[h];show (if S1.take S.length=S then _ else _)=_
 rw[if_pos h1,h2]
theorem xo (S:Cs)(T:List Ce):(S++T).take S.length=S:=by simp
theorem fZ (m:Nat):∀l:List Tr,Tr.jD m l=l.all (Tr.aE m)
 |[]=>by unfold Tr.jD;rfl
 |t::l=>by unfold Tr.jD;rw[fZ m l];rfl
theorem f9:∀l:List Tr,Tr.jA l=l.all Tr.lQ
 |[]=>by unfold Tr.jA;rfl
 |t::l=>by unfold Tr.jA;rw[f9 l];rfl
theorem o_ {m:Nat}{i:Int}:Tr.aE m (.int i)=true:=by unfold Tr.aE;rfl
theorem kQ {m:Nat}{i:Str}:Tr.aE m (.str i)=true:=by unfold Tr.aE;rfl
theorem MC {m:Nat}{i:Bool}:Tr.aE m (.bl i)=true:=by unfold Tr.aE;rfl
theorem Gr {m:Nat}:Tr.aE m .br=true:=by unfold Tr.aE;rfl
theorem nO {m:Nat}{l:List Tr}:Tr.aE m (.tp l)=l.all (Tr.aE m):=by unfold Tr.aE;exact fZ m l
theorem aa5 {m:Nat}{l:List Tr}:Tr.aE m (.ls l)=l.all (Tr.aE m):=by unfold Tr.aE;exact fZ m l
noncomputable def Gs (K:W.Frag):Sp:=λvs H Q _=>∃(a:Addr) (ns:List Int),vs=[.ref a]/\jk K H a (ns.map V.int)/\ns.length<=63/\∀H',Q (.bl true) H'
theorem aa6 {P:Program}{w:World}{K:W.Frag}{mg:Str->Option Value}{base:Heap}{CX:AM}{j:Nat}{f:Addr}{fd:FuncData}{ps:List Str}{cl:Str->Addr}{q:Fn}(F:aN P w K mg base CX j f fd ps (dm K cl 1 q))
  (h:∀ns:List Int,ns.length<=63->∃S,q [.kl (ns.map Tr.int)] [] = .ok (.bl true) S):aN P w K mg base CX j f fd ps (Gs K):=F.imp λvs H Q E cy=>by
 obtain⟨a,ns,ev,hS,hl,k⟩:=cy;subst ev;obtain⟨S,e⟩:=h ns hl;refine⟨⟨K,0,λ_=>0,H,λ_=>none⟩,[],[.kl (ns.map Tr.int)],⟨rfl,rfl,?_,λi c e=>(by simp at e),λi j ⟨c,e,_⟩=>(by simp at e),λb o e=>(by cases e),λi ⟨c,e,_⟩=>(by simp at e),λb xs e=>(by cases e)⟩,.cons ?_ .nil,rfl,?_⟩
 ·funext b
  unfold Fz;rw[if_neg];rintro (⟨i,⟨c,e,_⟩,_⟩|z)
  ·simp at e
  ·exact z rfl
 ·unfold RT
  exact⟨a,_,rfl,hS,bJ.ints ns⟩
 ·rw[e]
  intro w' H' v _ _ rv;rw[mW rv];exact k H'
noncomputable def amr (t:Tr)(x:R Tr)(S:Cs):R Tr:=match t with|.bl true=>x|.bl false=>.ok (.bl false) S|_=>.aG
noncomputable def orV (t:Tr)(x:R Tr)(S:Cs):R Tr:=match t with|.bl true=>.ok (.bl true) S|.bl false=>x|_=>.aG
theorem Ji {p:Prop}[Decidable p]{a b:Bool}{S:Cs}:(if p then R.ok (Tr.bl a) S else R.ok (Tr.bl b) S)=R.ok (Tr.bl (if p then a else b)) S:=by split<;>rfl
theorem zF {α:Type}{l:List α}{n:Int}{m:Int}(hm:m=l.length)(h0:0<m):∃t,t∈l/\iz l (n % m)=some t:=by
 have h1:=zcS n (by omega:m≠0)
 have h2:=zcC n h0;obtain⟨j,hj⟩:=zbd h1;have Gu:j<l.length:=by omega
 exact⟨l[j],zcn Gu,by rw[hj];exact gy (zad Gu)⟩
theorem pe {lo:Int}{n i:Nat}{t:Tr}(h:(rJ lo n)[i]? = some t):i<n/\t = .int (lo+i):=by
 unfold rJ at h;rw[zaq] at h;have jg:i<n:=by
  cases ec:(List.range n)[i]? with
  |none=>rw[ec] at h;cases h
  |some c=>simpa using (zab.mp ec).1
 rw[zcX jg] at h;cases h;exact⟨jg,rfl⟩
theorem pq {lo:Int}{n:Nat}:(rJ lo n).length=n:=by simp[rJ]
end L2
namespace L2
open PySem PySem.Spec PyProof.Rows
theorem nP {st:Nat}{l:List Tr}{i:Nat}{t:Tr}(h:(qU st l)[i]? = some t):∃u,l[i]? = some u/\t = .tp [.int ((st:Int)+(i:Int)),u]:=by
 obtain⟨u,e,rfl⟩:=xh h;exact⟨u,e,by rw[zbA]⟩
end L2
namespace L2
open PySem PySem.Spec PyProof.Rows
theorem zG:Bo "int" "bool"=some false:=by decide +kernel
theorem Bt:Bo "int" "int"=some true:=by decide +kernel
theorem Bu:Bo "str" "str"=some true:=by decide +kernel
theorem rK:Bo "tuple" "tuple"=some true:=by decide +kernel
theorem tV:∀{l m:List Char},l.map Char.toNat=m.map Char.toNat->l=m
 |[],[],_=>rfl
 |[],_::_,h=>by simp at h
 |_::_,[],h=>by simp at h
 |a::l,b::m,h=>by
  simp only[zas,List.cons.injEq] at h;rw[tV h.2,Char.ext (UInt32.toNat_inj.mp h.1)]
theorem SM {a b:String}:(Str.ofString a=Str.ofString b)=(a=b):=by
 apply propext
 constructor
 ·intro h
  rw[Str.ofString_eq_byList] at h;unfold Str.ofStringByList at h;simp only[Str.mk.injEq] at h;have h2:a.toList.map Char.toNat=b.toList.map Char.toNat:=by simpa using h
  exact String.toList_inj.mp (tV h2)
 ·rintro rfl;rfl
theorem tW {gP:Cs->Prop}{b:Tr->En->Cs->R En}{c:En->Cs->R Bool}{f:Em}{τ:En}{cA:List Tr}{S:Cs}(h:gP S):c8 gP b c f [] τ cA S = .ok cA S:=by unfold c8;rw[if_pos h]
theorem qV {gP:Cs->Prop}{b:Tr->En->Cs->R En}{c:En->Cs->R Bool}{f:Em}{t:Tr}{r:List Tr}{τ:En}{cA:List Tr}{S:Cs}(h:gP S):c8 gP b c f (t::r) τ cA S =
  (jf (b t τ S)).aE λdY S1=>(jf (c dY S1)).aE λx S2=>if x=true then (jf (f dY S2)).aE λu S3=>(if cA.length<sizeLine then c8 gP b c f r dY (cA++[u]) S3 else .aG) else c8 gP b c f r dY cA S2:=by
 conv=>lhs;unfold c8
 rw[if_pos h]
theorem i6 {α:Type}{gP:Cs->Prop}{b:Tr->En->Cs->R En}{c:En->Cs->R Bool}{f:Em}{S:Cs}(hS:gP S)(P:En->Prop)(k:α -> Tr)(g:α -> Tr)(keep:α -> Bool)
  : ∀(l:List α) (τ:En) (cA:List Tr),P τ -> (∀a∈l,∀ τ,P τ -> ∃dY,P dY/\b (k a) τ S = .ok dY S/\c dY S = .ok (keep a) S/\(keep a=true->f dY S = .ok (g a) S))->cA.length+l.length<=1000000 ->
   c8 gP b c f (l.map k) τ cA S = .ok (cA++(l.filter keep).map g) S
 |[],τ,cA,hτ,h,hl=>by rw[zbK,tW hS];simp
 |t::r,τ,cA,hτ,h,hl=>by
  obtain⟨dY,p1,e1,e2,e3⟩:=h t (by simp) τ hτ
  rw[zas,qV hS,e1,gX,R.e9,e2,gX,R.e9];have Ke:cA.length+1+r.length<=1000000:=by simp at hl;omega
  cases hk:keep t with
  |true =>
   rw[if_pos rfl,e3 hk,gX,R.e9,if_pos (zak (by omega:cA.length<1000000) (by decide)),i6 hS P k g keep r dY _ p1 (λu hu=>h u (by simp[hu])) (by simp;omega)]
   simp[zbV,hk]
  |false =>
   rw[if_neg zal,i6 hS P k g keep r dY _ p1 (λu hu=>h u (by simp[hu])) (by omega)]
   simp[zbV,hk]
theorem Eg {α β γ:Type}(f:α -> Bool)(g:α -> γ):∀{l:List α} {l':List β},l'.length=l.length->((l.zip l').filter λp=>f p.1).map (λp=>g p.1)=(l.filter f).map g
 |[],_,_=>by simp
 |a::l,[],h=>by simp at h
 |a::l,b::l',h=>by
  have h':l'.length=l.length:=by simpa using h
  rw[zdi,zbV,zbV];cases f a
  ·simp only[zcf,if_false];exact Eg f g h'
  ·simp only[if_true,zas];rw[Eg f g h']
theorem Gv {α β γ:Type}(g:β -> γ):∀{l:List α} {l':List β},l'.length=l.length->(l.zip l').map (λp=>g p.2)=l'.map g
 |[],[],_=>rfl
 |[],_::_,h=>by simp at h
 |a::l,[],h=>by simp at h
 |a::l,b::l',h=>by
  have h':l'.length=l.length:=by simpa using h
  rw[zdi,zas,zas,Gv g h']
theorem MD {α β:Type}:∀{l:List α} {l':List β} {p:α × β},p∈l.zip l'->∃j:Nat,l[j]? = some p.1/\l'[j]? = some p.2
 |[],_,p,h=>by simp at h
 |_::_,[],p,h=>by simp at h
 |a::l,b::l',p,h=>by
  rw[zdi] at h;rcases zan.mp h with rfl|h
  ·exact⟨0,rfl,rfl⟩
  ·obtain⟨j,h1,h2⟩:=MD h
   exact⟨j+1,by simpa using h1,by simpa using h2⟩
theorem HR.ext (h:HR G w S H)(k:∀b o,H b=some o->H' b=some o):HR G {w with F:=Fz w.ρ w.hid S H' } S H'/\w.le {w with F:=Fz w.ρ w.hid S H' }:=by
 have hF:∀b o,w.F b=some o->Fz w.ρ w.hid S H' b=some o:=λb o e=>by
  rw[h.F] at e;unfold Fz at e ⊢
  split at e
  ·cases e
  ·rename_i hn
   rw[if_neg hn];exact k b o e
 have le:w.le {w with F:=Fz w.ρ w.hid S H' }:=⟨rfl,zah _,λ_ _=>rfl,hF,rfl⟩
 exact⟨⟨h.K,h.n,rfl,λi c e=>(h.cell i c e).mono le λu eu=>k _ _ eu,h.inj,λb o e=>k b o (h.hid b o e),h.jP,h.hl⟩,le⟩
section
variable {P:Program}{qt:World}{K:W.Frag}{mg:Str->Option Value}{base:Heap}{N:List Str}{bW:Str}{scope:Scope}{f:Addr}{eZ:Value}{A:Around}{outer:List Env}{s₀:Shared}{H₀:Hp}{E:XK}{cl:Str->Addr}{k:Nat}
noncomputable def VB (C:Addr)(n:Nat)(g:List V->List (Str×V)):Sp:=λvs H Q _=>∃(a:Addr) (xs:List V),vs = .ref a::xs/\xs.length=n/\H a=some (EO a C none) /\
 ∀(d:Addr) (H':Hp),H d=none->H' a=some (EO a C (some d))->H' d=some (ED d (g xs))->(∀b o,H b=some o->b≠a->H' b=some o)->Q .br H'
theorem HR.aa7 (h:HR G w S H)(hx:H x=none)(hd:H d=none)(dx:d≠x)(h2x:H2 x=some (EO x (G.cl c) (some d)))(h2d:H2 d=some (ED d tG))
  (kp:∀b o,H b=some o->H2 b=some o) (hT:H2 T=none) (Tx:T≠x) (r:RK w fs tG):∃w',w.le w'/\w'.ρ S.length=x/\HR G w' (S++[.rF c fs]) (bF (bF H2 x (oN x (G.cl c) (some d) T)) T (TB T)):=by
 have h3:∀b o,H b=some o->(λb=>if b=x then none else H2 b) b=some o:=λb o e=>by
  show (if b=x then none else H2 b)=some o
  rw[if_neg λz=>by subst z;rw[hx] at e;cases e]
  exact kp b o e
 obtain⟨dQ,fM⟩:=h.ext (H':=λb=>if b=x then none else H2 b) h3
 have Z5:(λb=>if b=x then none else H2 b) T=none:=by
  show (if T=x then none else H2 T)=none
  rw[if_neg Tx,hT]
 obtain⟨qg,l8⟩:=dQ.lay Z5 (TB T)
 have dT:d≠T:=λz=>by rw[z,hT] at h2d;cases h2d
 have hp:bF (λb=>if b=x then none else H2 b) T (TB T) x=none:=by
  rw[au Tx.symm];show (if x=x then none else H2 x)=none
  rw[if_pos rfl]
 have hH:bF (bF (λb=>if b=x then none else H2 b) T (TB T)) x (oN x (G.cl c) (some d) T)=bF (bF H2 x (oN x (G.cl c) (some d) T)) T (TB T):=by
  funext b
  by_cases b1:b=x
  ·subst b1
   rw[ay,au Tx.symm,ay]
  ·rw[au b1]
   by_cases b2:b=T
   ·subst b2
    rw[ay,ay]
   ·rw[au b2,au b2,au b1]
    show (if b=x then none else H2 b)=_
    rw[if_neg b1]
 have L7:=Wd.tH { {w with F:=Fz w.ρ w.hid S λb=>if b=x then none else H2 b} with F:=bF (Fz w.ρ w.hid S λb=>if b=x then none else H2 b) T (TB T)} x
 obtain⟨Kl,_⟩:=qg.IQ hp (o:=oN x (G.cl c) (some d) T) (c:=.rF c fs) rfl (by
  refine⟨T,d,tG,ay,ay,?_,Tx,dx,r.mono (fM.trans (l8.trans L7))⟩
  show bF (Fz w.ρ w.hid S λb=>if b=x then none else H2 b) T (TB T) d=_
  rw[au dT];unfold Fz;rw[if_neg (h.free hd)];show (if d=x then none else H2 d)=_
  rw[if_neg dx,h2d])
 rw[hH] at Kl;refine⟨_,fM.trans (l8.trans L7),?_,Kl⟩
 show (if S.length=w.n then x else w.ρ S.length)=x
 rw[if_pos h.n.symm]
noncomputable def zH (c:Str)(n:Nat)(gT:List Tr->List (Str×Tr))(Gw:List Tr)(fr:En->Cs->R (List Tr)):Sm:=λτ S=>(fr τ S).bP λts S1=>if ts.length+Gw.length=n/\n<=1000 then .ex S1.length (S1++[.rF c (gT (ts++Gw))]) else .aG
theorem ME 
  (M:oK K (cl c) fi bm) (F:aN P qt K mg base dJ j fi fd ps (VB (cl c) n g)) (hj:j+1<=k) (hm:mg x=some (.ref (cl c))) (hb:d8 K fd ps ds) (hd:bL mU ds) (hdt:∀w,bJ w Gw mU) (hg:∀w ts vs,bJ w ts vs->ts.length=n->RK w (gT ts) (g vs))
  (ha:we ⟨K,cl,E⟩ k (ic (qa P qt) P qt K mg base N bW scope f eZ A outer s₀ H₀ E) (e::es) fr)
  (hgl:autoParam (Gl (ic (qa P qt) P qt K mg base N bW scope f eZ A outer s₀ H₀ E) x) zp_0) (sS:autoParam ((x == ("__debug__" : Str))=false) zp_1) (hs:autoParam (dN e=false) zp_0) (Kf:autoParam (cX es=true) zp_0) (xj:autoParam (0<k) zp_2):
  zu ⟨K,cl,E⟩ k (ic (qa P qt) P qt K mg base N bW scope f eZ A outer s₀ H₀ E) (.Raise (some (.Call (.Name x p) (e::es) [] g7)) none pos) (zH c n gT Gw fr):=.mk<|λox =>
 (LJ (ZU (X:=ic (qa P qt) P qt K mg base N bW scope f eZ A outer s₀ H₀ E) (E:=E0) M F ((ox.room xj).mono hj) hgl hm hb hd (λ_ _ _ _ _ _ _ h=>h.elim) (ha ox) sS (dF hs) (fD Kf))).wk λD σ H h=>by
  obtain⟨w,S,τ,hr,sl,q⟩:=h;refine⟨w,S,τ,hr,sl,(cE.aE q).mono λvs H1 cy=>?_⟩
  obtain⟨w1,S1,ts,dz,bN,r1,_,q1⟩:=cy;split at q1
  ·rename_i hn
   have hl:vs.length<=1000:=by rw[r1.len];omega
   refine⟨hl,λx' Vi=>⟨x',vs++mU,rfl,?_,ay,λd H' U8 e1 e2 kp=>⟨rfl,x',cl c,fi,bm,some d,rfl,e1,M,λT hT Tx=>?_⟩⟩⟩
   ·rw[zag,r1.len,(hdt w1).len];exact hn.1
   ·have dx:d≠x':=λz=>by rw[z,ay] at U8;cases U8
    have hd2:H1 d=none:=by rw[au dx] at U8;exact U8
    obtain⟨w',le',ρx,ql⟩:=bN.aa7 (c:=c) (fs:=gT (ts++Gw)) (tG:=g (vs++mU)) Vi hd2 dx e1 e2 (λb o eb=>kp b o (by rw[au λz=>by rw[z,Vi] at eb;cases eb];exact eb) λz=>by rw[z,Vi] at eb;cases eb) hT Tx (hg w1 _ _ (r1.rW (hdt w1)) (by rw[zag];exact hn.1))
    obtain⟨c',Kc,ec,kk⟩:=q1;have ec2:c'=c:=by
     simp only[o9] at ec;cases ec;rfl
    subst ec2
    have:=kk w' _ le' ql
    rw[ρx] at this;exact this
  ·exact q1.elim
noncomputable def fnX (N:List Str)(sb:Sm):Fn:=λts S=>match sb (gA N ts) S with|.nx _ S'=>.ok .br S' | .rt t S'=>.ok t S' | .ex n S'=>.ex n S' | _=>.aG
theorem MF {st:Stmt}(F:Ll K x bW st f fd)(Sc:aq N ps (aj st))
  (hb:∀eZ A outer s H E,IS ⟨K,cl,E⟩ k (ic (qa P qt) P qt K mg base N bW (aj st) f eZ A outer s H E) (cS st) sb):aN P qt K mg base (qa P qt) (k+1) f fd ps (dm K cl ps.length (fnX N sb)):=by
 refine F.okX Sc (λvs H Q E dR=>by obtain⟨w,S,ts,hr,r,hn,_⟩:=dR;rw[r.len,hn]) λeZ A outer s H vs Q E hr fC=>?_
 obtain⟨w,S,ts,Qp,r,hn,q⟩:=fC;refine⟨_,hb eZ A outer s H E ⟨rfl,λ_=>rfl,λ_=>hr,zcB (Nat.add_le_add_right (zcm _ _) 200) hr.un⟩,w,S,gA N ts,Qp,Sl.dg N r,?_⟩
 unfold fnX at q;cases e:sb (gA N ts) S with
 |nx o8 S'=>rw[e] at q;exact λw' H' d7 le ql Kw=>q w' H' _ le ql tK
 |rt t S'=>rw[e] at q;exact λw' H' v le ql rv=>q w' H' v le ql rv
 |bk o8 S'=>rw[e] at q;exact q.elim
 |ct o8 S'=>rw[e] at q;exact q.elim
 |ex o8 S'=>rw[e] at q;exact q
 |aG=>rw[e] at q;exact q.elim
end
theorem zI (hC:s.heap.get? C=some (excClassObj nm q C N bs bm rC sn sub ab s_ dd k0 k1 k2 k3 k5 oM))(hB:s.heap.get? B=some (excClassObj Vn q' B N' Vo Kg qQ Vp A6 Vq A7 Dc j0 j1 j2 j3 j5 l7))
  (he:s.heap.get? a=some oe) (Ky:oe.cls = .ref C) (hb:Kg.contains (.type "BaseException")=true) (h2:(Value.ref C::bm).contains (.ref B)=true) (hq:Q true s):wpAny M A (excMatches (.ref a) (.ref B)) Q E s:=by
 have h1:(Value.ref B::Kg).contains (.type "BaseException")=true:=by rw[zbx,hb,zcy]
 have f:=tc_notTuple;obtain⟨hp,g,d,tk,os⟩:=s;unfold excMatches;repeat (first | (with_reducible refine zbB he ?_;rw[Ky])|with_reducible refine zbB hB ?_ | (with_reducible refine zcq hB ?_;rw[h1]) | (with_reducible refine zcq hC ?_;rw[h2])|wp_step)
 exact hq
noncomputable def sJ.amt (D:sJ)(l:Nat):sJ:={nx:=λσ H=>D.nx (σ.set l none) H,bk:=λσ H=>D.bk (σ.set l none) H,ct:=λσ H=>D.ct (σ.set l none) H,rt:=D.rt}
noncomputable def aa8 (K:W.Frag)(B:Addr)(kk:Addr->Hp->Prop):XK:=λcls oa H2=>∃(a C f:Addr) (bm:List Value) (od:Option Addr) (T:Addr),oa=some a/\cls = .ref C/\oK K C f bm/\(Value.ref C::bm).contains (.ref B)=true /\
 H2 a=some (oN a C od T)/\H2 T=some (TB T)/\T≠a/\∀T',H2 T'=none->T'≠a->kk a (bF (bF H2 a (oN a C od T')) T' (TB T'))
noncomputable def aa9 (K:W.Frag)(C:Addr)(m:Str)(B:Addr)(l:Nat)(sp:Sp)(ta:TE)(t:TA)(ts:TS):TS:=λD σ H=>FO C m sp [] (aa8 K B λa H'=>ts (D.amt l) (σ.set l (some (.ref a))) H') ta t σ H λ_ H3=>D.nx σ H3
section
variable {X:Cx}{k:Nat}{g B C:Addr}{fd:FuncData}{ps:List Str}{sp:Sp}{e o:Expr}{es:List Expr}{ta:TE}{t:TA}{n m cB:Str}{l:Nat}{p cp ap np ep hp pos:Pos}{lC:List Stmt}{rL:Stmt}{ts:TS}
 {Vn q':Str} {N':Addr} {Vo Kg:List Value} {qQ:Bool} {Vp:List Str} {A6:List Value} {Vq:Bool} {A7:Option Bool} {Dc:Option Addr} {j0 j1 j2 j3 j5:Option Value} {l7:String}
theorem Jj {D:sJ}(VC:X.fX=true)(zJ:X.c_=X.env::X.outer)(IE:X.env.frame=some X.env.locals)(hgB:Gl X cB)(hmB:X.mg cB=some (.ref B))
  (hB:X.K.lookup B=some (excClassObj Vn q' B N' Vo Kg qQ Vp A6 Vq A7 Dc j0 j1 j2 j3 j5 l7)) (hbB:Kg.contains (.type "BaseException")=true) (SN:(cB == ("__debug__" : Str))=false)
  (I1:aL X ah σ H1 s1) (hq:qa X.prog X.w X.c_ H1 s1 (aa8 X.K B kk) ev s')
  (hs:∀a C od T' s4 H4,ev = .ref a->H4 a=some (oN a C od T')->H4 T'=some (TB T')->aL (X.kE a) ah σ H4 s4->kk a H4->codeAny (model X.prog X.w) (X.A.mark (some (.ref a))) (.handlers (.ref a) [.ExceptHandler none name (rL::lC) hp] X.env) (λr lV=>match r with
     |.ok f=>(match name with
      |none=>SP X ah D f lV
      |some n=>wpAny (model X.prog X.w) X.A (do bindName X.env n .none;unbindBehindTheSuite X.env n hp) (λ_ vY=>SP X ah D f vY) X.xe lV)
     |.error x=>cameBackBy (model X.prog X.w) X.A X.env X.xe x lV) s4):
  wpAny (model X.prog X.w) X.A (noteFrame ev X.env) (λ_ lV=>wpAny (model X.prog X.w) X.A (setFlight ev none) (λ_ vY=>wpAny (model X.prog X.w) X.A (handleBy ev X.env [.ExceptHandler (some (.Name cB np)) name (rL::lC) hp]) (SP X ah D) X.xe vY) X.xe lV) X.xe s':=by
 obtain⟨a,_,_,_,H2,rfl,Q8,MG,un,b_,_,_,_,a9,C,f,bm,od,T,ea,ec,Mk,Eh,Vm,VD,Ta,kq⟩:=hq;cases ea;have I2:aL X ah σ H2 s':=I1.AH (ch:=[]) Q8 un b_ MG (λb z=>absurd z (by simp))
 obtain⟨t0,ga⟩:=(show ∃t,s'.heap.get? a=some (iB C od t (.ref T)) from (I2.b_ a _ Vm).1)
 have gT:tD s'.heap T:=(I2.b_ T _ VD).1
 have j9:s'.heap.FunFrames X.base (X.env::X.outer):=by rw[<-zJ];exact I2.yV.j9
 have frames:X.A.frames=some (X.env::X.outer):=by rw[<-zJ];exact I2.ok.frames
 refine wU (base:=X.base) frames j9 IE ga gT Ta λh1 h' T' k1 tb1 z1 Lf=>?_
 have RI:T'≠a:=zbQ (zak (zam ga) (by rw[<-z1];exact Lf.new))
 have Z7:H2 T'=none:=I2.b_.fresh (by rw[<-z1];exact Lf.new)
 have I3:aL X ah σ (bF (bF H2 a (oN a C od T')) T' (TB T')) {s' with heap:=h' }:=I2.A5 Vm VD Ta RI k1 tb1 z1 (by rw[zJ];exact Lf)
 have I3m:=I3.kE a;refine wpAny_handleBy_cons (codeAny_handlers_test (mT I3m hgB hmB ?_ SN)) (by intro q;cases q)
 obtain⟨nm,qn,N0,bs,sn,sub,ab,s_,dd,k0,k1',k2,k3,k5,lk⟩:=Mk.lW;refine zI (I3.jH _ _ lk) (I3.jH _ _ hB) Lf.lW rfl hbB Eh ?_
 exact hs a C od T' _ _ rfl (by rw[au RI.symm,ay]) ay I3m (kq T' Z7 RI)
theorem Ei (I:aL X ah σ H s)(ha:H a=some (oN a C od T))(hT:H T=some (TB T))
  (h:∀s',aL X ah σ H s'->Q () s'):wpAny M A (setFlight (.ref a) none) Q E s:=by
 obtain⟨t0,e1⟩:=(show ∃t,s.heap.get? a=some (iB C od t (.ref T)) from (I.b_ a _ ha).1)
 obtain⟨oT,ts,eT,dT,h3⟩:=(show tD s.heap T from (I.b_ T _ hT).1)
 unfold setFlight;refine zaa (zbr e1 rfl (x:=.ref T) rfl ?_)
 rw[if_pos (show (Value.ref T != Value.none)=true from by simp)]
 have sz:=(zdk.mp h3).1
 refine zbG eT dT sz ?_
 have fT:(s.heap.update T (Obj.mapFields (·.setIfInBounds 3 ((none:Option Addr).elim Value.none λf=>rawInt f)))).get? T=some (Obj.mapFields (·.setIfInBounds 3 ((none:Option Addr).elim Value.none λf=>rawInt f)) oT):=zaQ _ eT (zci (zbk dT _))
 have tb4:tD (s.heap.update T (Obj.mapFields (·.setIfInBounds 3 ((none:Option Addr).elim Value.none λf=>rawInt f)))) T:=⟨_,_,fT,zbk dT _,by simp[sz]⟩
 have I4:=I.ji (x:=T) (e:=T) (o:=TB T) (t':=s.toks) (h':=s.heap.update T (Obj.mapFields (·.setIfInBounds 3 ((none:Option Addr).elim Value.none λf=>rawInt f))))
  (by rw[hT];exact True.intro) (.inl rfl) (λb u nb hb=>(zaA _ _ (zbc nb)).trans hb) ⟨_,fT⟩ (F8 tb4)
 rw[A2 hT] at I4;exact h _ I4
theorem MH (VC:X.fX=true)(zJ:X.c_=X.env::X.outer)(IE:X.env.frame=some X.env.locals)(hgB:Gl X cB)(hmB:X.mg cB=some (.ref B))
  (hB:X.K.lookup B=some (excClassObj Vn q' B N' Vo Kg qQ Vp A6 Vq A7 Dc j0 j1 j2 j3 j5 l7)) (hbB:Kg.contains (.type "BaseException")=true)
  (he:PE X.C_ o ta) (c:rS X.K C) (hm:cN X.K C m g) (F:aN X.prog X.w X.K X.mg X.base (qa X.prog X.w) k g fd ps sp) (hr:gH k X.A) (hb:d8 X.K fd ps []) (ha:PA X.C_ (e::es) t)
  (hN:X.N.Nodup) (hl:X.N[l]? = some n) (rX:X.env.scope.names.lookup n=some .local) (hs:∀a,wC (X.kE a).C_ (rL::lC) ts)
  (SN:autoParam ((cB == ("__debug__" : Str))=false) zp_1) (RG:autoParam (swapsWith (.Call (.Attribute o m ap) (e::es) [] cp) none ep.line X.env=pure false) zp_0)
  (pQ:autoParam (starEach (e::es) X.env=(false,eval e X.env)::starEach es X.env) zp_0) (hpl:autoParam ((backTo cp (starEach es X.env)).any (·.1)=false) zp_0)
  (ht:autoParam (eval (.Call (.Attribute o m ap) (e::es) [] cp) X.env=(do
   let ov <-eval o X.env
   standAt ap.atName
   let (f,first) <-holding [ov] (getMethod ov m pl)
   callWith cp f first (backTo cp (starEach (e::es) X.env)) (backToKw cp (keywordEach [] X.env)))) zp_0):
  PS X (.Try [.Expr (.Call (.Attribute o m ap) (e::es) [] cp) ep] [.ExceptHandler (some (.Name cB np)) (some n) (rL::lC) hp] [] [] pos) (aa9 X.K C m B l sp ta t ts):=by
 intro ah s σ H D I h;have hhd:X.fX=true->X.A.handled=none:=I.ok.hd
 refine wpAny_Try_except (zdx (wpAny_Expr_any ?_ I.quiet RG))
 refine W.methodCall_KW (pl:=pl) (zaH (he ah s σ H _ (I.rm _) h) (λu s1 cy=>?_) λ_ _ z=>z.elim) ht
 obtain⟨x,H1,I1',rx,a,dx,fs,ex,ea,lk,q⟩:=cy;have I1:aL X ah σ H1 s1:=I1'.gk
 subst ex;obtain rfl:u=Value.ref a:=rx
 refine nJ I1 ea c hm lk ?_
 refine W.callWith_K (first:=[.ref a]) (h₀:= X.base) I.ok.sH.YW hm.kp (zaH (ha cp ah s1 σ H1 _ I1' q) (λus s2 ⟨vs,H2,I2',r,q2⟩=>⟨I2'.gk.jH,?_⟩) λ_ _ z=>z.elim) pQ hpl
 have I2:aL X ah σ H2 s2:=I2'.gk
 have r2:bL (V.ref a::vs) (Value.ref a::us):=.cons rfl r
 have q2:sp (V.ref a::(vs++[])) H2 _ _:=q2
 rw[zaw] at q2;have dB:(Value.ref a::us).length=ps.length:=by rw[<-r2.length];exact F.len _ _ _ _ q2
 have aE:=hb s2 (Value.ref a::us) I2.jH (by rw[zaw];exact dB)
 rw[zaw] at aE;refine zcD (zcw (F.kj X.A X.c_ s2 H2 ⟨Value.ref a::us,[]⟩ (Value.ref a::us) (V.ref a::vs) _ _ hr I2.yV aE r2 q2) λrr s' hq=>?_)
 cases rr with
 |ok fl =>
  cases fl with
  |ret u =>
   obtain⟨v,H3,I3,rv,q3⟩:=I2.after hq;exact zcr (zcr ⟨σ,H3,I3,q3⟩)
  |next=>exact False.elim hq
  |brk=>exact False.elim hq
  |cont=>exact False.elim hq
 |error ev =>
  refine Jj VC zJ IE hgB hmB hB hbB SN I2 hq λa C od T' s4 H4 _ ha4 hT4 I4 kq=>?_
  refine codeAny_handlers_suite_as (Ei I4 ha4 hT4 λs5 I5=>?_)
  refine ou (X:=X.kE a) I5 hN hl (.inl rX) (v:=.ref a) rfl (λs6 I6=>?_) (.inr rX)
  refine zaH (hs a ah s6 (σ.set l (some (.ref a))) H4 _ (I6.rm _) kq) (λfl s7 h7=>?_) λ_ _ z=>z.elim
  cases fl with
  |next=>obtain⟨d7,H',I7,q7⟩:=h7;exact rV (I7.gk.oO hhd) hN hl rX λs8 I8=>⟨_,_,I8,q7⟩
  |brk=>obtain⟨d7,H',I7,q7⟩:=h7;exact rV (I7.gk.oO hhd) hN hl rX λs8 I8=>⟨_,_,I8,q7⟩
  |cont=>obtain⟨d7,H',I7,q7⟩:=h7;exact rV (I7.gk.oO hhd) hN hl rX λs8 I8=>⟨_,_,I8,q7⟩
  |ret u=>obtain⟨v,d7,H',I7,r7,q7⟩:=h7;exact rV (I7.gk.oO hhd) hN hl rX λs8 I8=>⟨v,_,_,I8,r7,q7⟩
end
noncomputable def xq (S:Cs)(n:Nat):Option (Str×List (Str×Tr)):=match S[n]? with|some (.rF c fs)=>some (c,fs)|_=>none
theorem kR (h:xq S n=some (c,fs)):S[n]? = some (.rF c fs):=by
 unfold xq at h;split at h
 ·cases h;assumption
 ·cases h
noncomputable def MI (G:Gx)(cs:List Str)(g:Str):Prop:=∀c∈cs,(∃f bm,oK G.K (G.cl c) f bm)/\W.findIn G.K (.ref (G.cl c)) g=some none
noncomputable def Bv (cs:List Str)(g:Str)(t:Tr)(S:Cs):R Tr:=match t with
 |.hd n=>(match xq S n with|some (c,fs)=>if c∈cs then (match aV g fs with|some u=>.ok u S|none=>.aG) else .aG|none=>.aG)
 |_=>.aG
noncomputable def Bw (cs:List Str)(g:Str)(fo:Em):Em:=λτ S=>(fo τ S).aE λt S1=>Bv cs g t S1
section
variable {G:Gx}{k:Nat}{X:Cx}{o a:Expr}{fo fa:Em}{pos p p2:Pos}
theorem zL (hf:MI G cs f)(ho:TV G k X o fo)(hb:autoParam (attributeBase o f X.env (eval o X.env)=eval o X.env) zp_0):TV G k X (.Attribute o f pos) (Bw cs f fo):=.mk<|λox=>(LM (ho ox) hb).wk λσ H Q h=>by
 obtain⟨w,S,τ,hr,sl,q⟩:=h;refine⟨w,S,τ,hr,sl,(bA.aE q).mono λx H1 cy=>?_⟩
 obtain⟨w1,S1,t1,dz,bN,r1,_,q1⟩:=cy;unfold Bv at q1;split at q1
 ·split at q1
  ·rename_i c fs ei
   split at q1
   ·rename_i hc
    split at q1
    ·rename_i u eu
     obtain⟨T,d,tG,h1,h2,h3,_,_,h4⟩:=bN.cell _ _ (kR ei)
     obtain⟨v,ev,rv⟩:=(gp (k:=f) h4).1 u eu
     obtain⟨⟨f',bm,M⟩,hn⟩:=hf c hc
     rw[<-ox.K] at M hn;exact⟨_,_,f',bm,d,T,tG,v,r1.cY.2,h1,bN.sub _ _ h3,M,hn,ev,q1 w1 H1 v (.refl _) bN rv⟩
    ·exact q1.elim
   ·exact q1.elim
  ·exact q1.elim
 ·exact q1.elim
structure Sys (K:W.Frag):Prop where
 get:W.specialIn K (.builtin "object.__class__") "__get__"=some (some (.builtin "getset_descriptor.__get__"))
 ape:W.takesIn K (.builtin "object.__class__")=some true
end
noncomputable def zM (l:Option Nat)(x:Option Tr)(τ:En):En:=match l with|some l=>τ.set l x|none=>τ
noncomputable def xr (l:Option Nat)(r:RS):RS:=match r with
 |.nx τ S=>.nx (zM l none τ) S
 |.bk τ S=>.bk (zM l none τ) S
 |.ct τ S=>.ct (zM l none τ) S
 |.rt t S=>.rt t S
 |_=>.aG
noncomputable def kT (cs:List Str)(l:Option Nat)(sh:Sm)(τ:En)(r:R Tr):RS:=match r with
 |.ok _ S=>.nx τ S
 |.ex e S=>(match xq S e with|some (c,_)=>if c∈cs then xr l (sh (zM l (some (.hd e)) τ) S) else .aG|none=>.aG)
 |.aG=>.aG
noncomputable def xu (c m:Str)(n:Nat)(q:Fn)(fo:Em)(fr:En->Cs->R (List Tr))(cs:List Str)(l:Option Nat)(sh:Sm):Sm:=λτ S=>(fo τ S).bP λt S1=>match t with
 |.hd i=>(match iC S1 i with
  |some (c',fs)=>if c'=c/\(aV m fs).isNone=true then (fr τ S1).bP λts S2=>(if (t::ts).length=n then kT cs l sh τ (q (t::ts) S2) else .aG) else .aG
  |none=>.aG)
 |_=>.aG
noncomputable def r_ (G:Gx)(B:Addr)(cs:List Str):Prop:=∀c∈cs,∃f bm,oK G.K (G.cl c) f bm/\(Value.ref (G.cl c)::bm).contains (.ref B)=true
theorem i7 {α:Type}:∀{l:List α} {i:Nat} {c:α},l[i]? = some c->l.set i c=l
 |[],i,c,h=>by simp at h
 |x::r,0,c,h=>by simp at h;simp[h]
 |x::r,i+1,c,h=>by simp only[zaD] at h;rw[zdh,i7 h]
theorem HR.A5 (h:HR G w S H)(he:S[e]? = some (.rF c fs)):∃d T,H (w.ρ e)=some (oN (w.ρ e) (G.cl c) (some d) T)/\H T=some (TB T)/\T≠w.ρ e /\
  ∀T',H T'=none->T'≠w.ρ e->∃w',w.le w'/\w'.ρ=w.ρ /\ HR G w' S (bF (bF H (w.ρ e) (oN (w.ρ e) (G.cl c) (some d) T')) T' (TB T')):=by
 obtain⟨T,d,tG,h1,h2,h3,h4,h5,h6⟩:=h.cell _ _ he;refine⟨d,T,h1,h.sub _ _ h2,h4,λT' hT' ne=>?_⟩
 obtain⟨dQ,fM⟩:=h.lay hT' (TB T')
 have hdT:d≠T':=λz=>by rw[z,h.LV hT'] at h3;cases h3
 have qg:=dQ.DI he rfl (c':=.rF c fs) rfl (o:=oN (w.ρ e) (G.cl c) (some d) T') ⟨T',d,tG,ay,ay,by show bF w.F T' (TB T') d=_;rw[au hdT];exact h3,ne,h5,h6.mono fM⟩
 rw[i7 he] at qg;refine⟨_,fM,rfl,?_⟩
 have:bF (bF H (w.ρ e) (oN (w.ρ e) (G.cl c) (some d) T')) T' (TB T')=bF (bF H T' (TB T')) (w.ρ e) (oN (w.ρ e) (G.cl c) (some d) T'):=by
  funext b
  by_cases b1:b=T'
  ·subst b1;rw[ay,au ne,ay]
  ·rw[au b1]
   by_cases b2:b=w.ρ e
   ·subst b2;rw[ay,ay]
   ·rw[au b2,au b2,au b1]
 rw[this];exact qg
section
variable {K:W.Frag}{cl:Str->Addr}{k j n:Nat}{X:Cx}{f B:Addr}{fd:FuncData}{ps:List Str}{q:Fn}{m cB nn c:Str}{p cp ap np ep hp pos:Pos}{e o:Expr}{es:List Expr}{fr:En->Cs->R (List Tr)}{fo:Em}{lC:List Stmt}{rL:Stmt}{sh:Sm}{l:Nat}{cs:List Str}
 {Vn q':Str} {N':Addr} {Vo Kg:List Value} {qQ:Bool} {Vp:List Str} {A6:List Value} {Vq:Bool} {A7:Option Bool} {Dc:Option Addr} {j0 j1 j2 j3 j5:Option Value} {l7:String}
theorem HR.swE (h:HR ⟨K,cl,E⟩ w S H):HR ⟨K,cl,E'⟩ w S H:=HR.unx (G:=⟨K,cl,E'⟩) (HR.nx (G:=⟨K,cl,E⟩) h)
theorem MJ {lo:Option Nat}(hC:r_ ⟨K,cl,E⟩ B cs)(sl:Sl w2 τ σ)(q2:cE ⟨K,cl,E⟩ w2 (kT cs lo sh τ r) D)
  (hkk:∀a H',(∃w S n,w2.le w/\HR ⟨K,cl,E⟩ w S H'/\n<w.n/\a=w.ρ n/\cE ⟨K,cl,E⟩ w (xr lo (sh (zM lo (some (.hd n)) τ) S)) D)->kk a H'):bA RT ⟨K,cl,aa8 K B kk⟩ w2 r λ_ H3=>D.nx σ H3:=by
 cases r with
 |ok a S3=>exact λw' H' b le ql _=>q2 w' H' σ le ql.swE (sl.mono le)
 |aG=>exact q2
 |ex en S3 =>
  unfold kT at q2;simp only at q2
  split at q2
  ·rename_i c2 fs2 ei
   split at q2
   ·rename_i hc
    refine⟨c2,fs2,kR ei,λw' H' le ql=>?_⟩
    obtain⟨d,T,h1,h2,h3,h4⟩:=ql.A5 (kR ei)
    obtain⟨f',bm,M,Eh⟩:=hC c2 hc;refine⟨_,_,f',bm,some d,T,rfl,rfl,M,Eh,h1,h2,h3,λT' a1 a2=>?_⟩
    obtain⟨w3,l8,e3,qg⟩:=h4 T' a1 a2;have hn:en<w3.n:=by
     have:=(zab.mp (kR ei)).1
     rw[qg.n];exact this
    exact hkk _ _ ⟨w3,S3,en,le.trans l8,qg.swE,hn,by rw[e3],cE.wd (le.trans l8) q2⟩
   ·exact q2.elim
  ·exact q2.elim
theorem MK {pl:Sem Bool}(hB:K.lookup B=some (excClassObj Vn q' B N' Vo Kg qQ Vp A6 Vq A7 Dc j0 j1 j2 j3 j5 l7))(hbB:Kg.contains (.type "BaseException")=true)(hC:r_ ⟨K,cl,E0⟩ B cs)(hmB:X.mg cB=some (.ref B))
  (hc:rS K (cl c)) (hM:cN K (cl c) m f) (F:aN X.prog X.w X.K X.mg X.base (qa X.prog X.w) j f fd ps (dm K cl n q)) (hj:j<=k) (hb:d8 X.K fd ps []) (ho:TV ⟨K,cl,E0⟩ k X.C_ o fo) (ha:we ⟨K,cl,E0⟩ k X.C_ (e::es) fr)
  (hN:X.N.Nodup) (hs:∀a,IS ⟨K,cl,E0⟩ 0 (X.kE a).C_ (rL::lC) sh) (hl:X.N[l]? = some nn) (rX:X.env.scope.names.lookup nn=some .local) (zJ:autoParam (X.c_=X.env::X.outer) zp_0) (IE:autoParam (X.env.frame=some X.env.locals) zp_0)
  (hgB:autoParam (Gl X cB) zp_0) (SN:autoParam ((cB == ("__debug__" : Str))=false) zp_1) (RG:autoParam (swapsWith (.Call (.Attribute o m ap) (e::es) [] cp) none ep.line X.env=pure false) zp_0)
  (pQ:autoParam (dN e=false) zp_0) (hpl:autoParam (cX es=true) zp_0)
  (ht:autoParam (eval (.Call (.Attribute o m ap) (e::es) [] cp) X.env=(do
   let ov <-eval o X.env
   standAt ap.atName
   let (f,first) <-holding [ov] (getMethod ov m pl)
   callWith cp f first (backTo cp (starEach (e::es) X.env)) (backToKw cp (keywordEach [] X.env)))) zp_0) (xj:autoParam (0<k) zp_2):
  zu ⟨K,cl,E0⟩ k X (.Try [.Expr (.Call (.Attribute o m ap) (e::es) [] cp) ep] [.ExceptHandler (some (.Name cB np)) (some nn) (rL::lC) hp] [] [] pos) (xu c m n q fo fr cs (some l) sh):=.mk<|λox =>
 (MH (pl:=pl) (C:=cl c) (ox.fX xj) zJ IE hgB hmB (by rw[ox.K];exact hB) hbB (ho ⟨ox.K,ox.fX,ox.room,ox.un⟩) (by rw[ox.K];exact hc) (by rw[ox.K];exact hM) F ((ox.room xj).mono hj) hb (ha ⟨ox.K,ox.fX,ox.room,ox.un⟩) hN hl rX (λa=>hs a ⟨ox.K,λz=>absurd z (zaJ 0),λz=>absurd z (zaJ 0),ox.un⟩) SN RG (dF pQ) (fD hpl) ht).wk λD σ H h=>by
  obtain⟨w,S,τ,hr,sl,qq⟩:=h;refine⟨w,S,τ,hr,sl,(cE.aE qq).mono λv H1 iU=>?_⟩
  obtain⟨w1,S1,t,dz,bN,r1,_,q1⟩:=iU;split at q1
  ·split at q1
   ·rename_i c' fs ei
    split at q1
    ·rename_i hc
     obtain⟨rfl,hm⟩:=hc;obtain⟨dx,tG,h1,h2⟩:=bN.cell _ _ (fE ei)
     refine⟨_,dx,tG,r1.cY.2,h1,(gp (k:=m) h2).2 (zdw.mp hm),w1,S1,τ,bN,sl.mono dz,(cE.aE q1).mono λvs H2 iV=>?_⟩
     obtain⟨w2,S2,ts,fM,dQ,r2,_,q2⟩:=iV;split at q2
     ·rename_i hn
      rw[zaw];refine⟨w2,S2,_,dQ.swE,.cons (RT.mono fM _ _ r1) r2,hn,?_⟩
      rw[ox.K];refine MJ hC ((sl.mono dz).mono fM) q2 λa H' l6=>?_
      obtain⟨w3,S3,en,l8,qg,hn3,ea,q3⟩:=l6;subst ea;refine⟨w3,S3,τ.set l (some (.hd en)),qg,((sl.mono dz).mono (fM.trans l8)).set l (t:=.hd en) (v:=.ref (w3.ρ en)) (by unfold RT;exact⟨hn3,rfl⟩),?_⟩
      have q3:cE ⟨K,cl,E0⟩ w3 (xr (some l) (sh (τ.set l (some (.hd en))) S3)) D:=q3
      generalize sh (τ.set l (some (.hd en))) S3=z at q3 ⊢
      cases z with
      |nx j8 S4=>exact λw' H' d7 le ql Kw=>q3 w' H' _ le ql (Kw.LY l none)
      |bk j8 S4=>exact λw' H' d7 le ql Kw=>q3 w' H' _ le ql (Kw.LY l none)
      |ct j8 S4=>exact λw' H' d7 le ql Kw=>q3 w' H' _ le ql (Kw.LY l none)
      |rt j8 S4=>exact q3
      |ex j8 S4=>exact q3.elim
      |aG=>exact q3
     ·exact q2.elim
    ·exact q1.elim
   ·exact q1.elim
  ·exact q1.elim
end
structure EC (K:W.Frag) (mg:Str->Option Value) (B:Addr) (x:Str) (C f:Addr) (st:Stmt) (fd:FuncData) (ps:List Str):Prop where
 M:oK K C f (.ref B::rT)
 m:mg x=some (.ref C)
 b:d8 K fd ps []
 lk:∃(oc:Value) (od:Option Addr) (dV kV nK pm:Value) (an:Option Addr) (eZ ct:Value) (DH:Array (Option Value)) (q:Str),
  fd=W.fnOf "__init__" q (d_ st) (cS st) (aj st) dV kV nK pm an eZ ct/\K.lookup f=some ⟨oc,od,.func fd,DH⟩/\W.codeIn K eZ q=true
structure abd (K:W.Frag) (mg:Str->Option Value) (B:Addr) (cs:List (Str×Addr×Addr)):Prop where
 m:mg "BookError"=some (.ref B)
 EB:Vk K B
 Qq:(W.clsIn K B).isSome=true
 tyB:W.typeIn K (.ref B)=some (.type "type")
 oB:∃nm q N bs hd sn sub ab s_ dd j0 j1 j2 j3 j5 oM,K.lookup B=some (excClassObj nm q B N bs rT hd sn sub ab s_ dd j0 j1 j2 j3 j5 oM)
 sy:Sys K
 all:∀p∈cs,mg p.1=some (.ref p.2.1)/\oK K p.2.1 p.2.2 (.ref B::rT)
section
variable {P:Program}{w:World}{K:W.Frag}{mg:Str->Option Value}{base:Heap}{B:Addr}{cs:List (Str×Addr×Addr)}
theorem EC.ok {st:Stmt}(F:EC K mg B x C f st fd ps)(S:aq N ps (aj st))(len:∀vs H Q E,sp vs H Q E->vs.length=ps.length)
  (sU:∀(q:Str) (eZ:Value) (A:Around) (outer:List Env) (s:Shared) (H:Hp) (vs:List V) (Q:VK) (E:XK),gH k (A.deeper (PyProof.Rows.envOfC q (aj st) s.heap.objs.size f eZ))->sp vs H Q E ->
   ∃t,wC (ic dJ P w K mg base N q (aj st) f eZ A outer s H E).C_ (cS st) t/\t {nx:=λ_ H'=>Q .br H',rt:=Q} (L2.dg N vs) H):aN P w K mg base dJ (k+1) f fd ps sp:=by
 obtain⟨oc,od,dV,kV,nK,pm,an,eZ,ct,DH,q,rfl,lk,AI⟩:=F.lk;refine K3 lk AI S len λA outer s H vs Q E hr Kd=>?_
 obtain⟨t,h,z⟩:=sU q eZ A outer s H vs Q E hr Kd;exact⟨t,h.C_,z⟩
noncomputable def gE2 (g h:Str):List V->List (Str×V)|[_,y,z]=>[(g,y),(h,z)]|_=>[]
noncomputable def gT2 (g h:Str):List Tr->List (Str×Tr)|[_,y,z]=>[(g,y),(h,z)]|_=>[]
theorem gR2:∀w ts vs,bJ w ts vs->ts.length=3->RK w (gT2 g h ts) (gE2 g h vs):=λw ts vs r hl=>by
 match ts,hl with
 |[a,b,c],_ =>
  obtain⟨x,r1,rfl,h1,h2⟩:=r.bE;obtain⟨y,r2,rfl,h3,h4⟩:=h2.bE;obtain⟨z,r3,rfl,h5,h6⟩:=h4.bE;rw[h6.cC];exact .cons h3 (.cons h5 .nil)
noncomputable def abe (K:W.Frag)(B:Addr):Prop:=∃nm q N bs bm hd sn sub ab s_ dd j0 j1 j2 j3 j5 oM,K.lookup B=some (excClassObj nm q B N bs bm hd sn sub ab s_ dd j0 j1 j2 j3 j5 oM)/\bm.contains (.type "BaseException")=true
theorem abd.lW (E:abd K mg B cs):abe K B:=by
 obtain⟨nm,q,N,bs,hd,sn,sub,ab,s_,dd,j0,j1,j2,j3,j5,oM,h⟩:=E.oB;exact⟨nm,q,N,bs,rT,hd,sn,sub,ab,s_,dd,j0,j1,j2,j3,j5,oM,h,by decide +kernel⟩
theorem oK.abf (M:oK K C f (.ref B::rT)):abe K C:=by
 obtain⟨nm,q,N,bs,sn,sub,ab,s_,dd,k0,k1,k2,k3,k5,h⟩:=M.lW;exact⟨nm,q,N,bs,_,true,sn,sub,ab,s_,dd,k0,k1,k2,k3,k5,_,h,by rw[zbx,show rT.contains (.type "BaseException")=true by decide +kernel,zcy]⟩
theorem ML:(Value.ref C::.ref B::rT).contains (.ref C)=true:=by simp[zbx]
end
section
variable {K:W.Frag}{cl:Str->Addr}{k j n:Nat}{X:Cx}{f B:Addr}{fd:FuncData}{ps:List Str}{q:Fn}{m cB nn c:Str}{p cp ap np ep hp pos:Pos}{e o:Expr}{es:List Expr}{fr:En->Cs->R (List Tr)}{fo:Em}{lC:List Stmt}{rL:Stmt}{sh:Sm}{l:Nat}{cs:List Str}
theorem qu (hB:abe K B)(hC:r_ ⟨K,cl,E0⟩ B cs)(hmB:X.mg cB=some (.ref B))
  (hc:rS K (cl c)) (hM:cN K (cl c) m f) (F:aN X.prog X.w X.K X.mg X.base (qa X.prog X.w) j f fd ps (dm K cl n q)) (hj:j<=k) (hb:d8 X.K fd ps []) (ho:TV ⟨K,cl,E0⟩ k X.C_ o fo) (ha:we ⟨K,cl,E0⟩ k X.C_ (e::es) fr)
  (hN:X.N.Nodup) (hs:∀a,IS ⟨K,cl,E0⟩ 0 (X.kE a).C_ (rL::lC) sh) (hl:X.N[l]? = some nn) (rX:X.env.scope.names.lookup nn=some .local) (zJ:autoParam (X.c_=X.env::X.outer) zp_0) (IE:autoParam (X.env.frame=some X.env.locals) zp_0)
  (hgB:autoParam (Gl X cB) zp_0) (SN:autoParam ((cB == ("__debug__" : Str))=false) zp_1) (RG:autoParam (swapsWith (.Call (.Attribute o m ap) (e::es) [] cp) none ep.line X.env=pure false) zp_0)
  (pQ:autoParam (dN e=false) zp_0) (hpl:autoParam (cX es=true) zp_0)
  (ht:autoParam (eval (.Call (.Attribute o m ap) (e::es) [] cp) X.env=(do
   let ov <-eval o X.env
   standAt ap.atName
   let (f,first) <-holding [ov] (getMethod ov m pl)
   callWith cp f first (backTo cp (starEach (e::es) X.env)) (backToKw cp (keywordEach [] X.env)))) zp_0) (xj:autoParam (0<k) zp_2):
  zu ⟨K,cl,E0⟩ k X (.Try [.Expr (.Call (.Attribute o m ap) (e::es) [] cp) ep] [.ExceptHandler (some (.Name cB np)) (some nn) (rL::lC) hp] [] [] pos) (xu c m n q fo fr cs (some l) sh):=by
 obtain⟨_,_,_,_,_,_,_,_,_,_,_,_,_,_,_,_,_,h,hbB⟩:=hB;exact MK h hbB hC hmB hc hM F hj hb ho ha hN hs hl rX zJ IE hgB SN RG pQ hpl ht xj
end
theorem Ej:fB (qa P w) X E0:=λ_ _ _ _ _ _ _ h=>by
 obtain⟨_,_,_,_,_,_,_,_,_,_,_,_,_,z⟩:=h;exact z.elim
noncomputable def kIf (a b:Sm)(τ:En):Bool->Cs->RS:=λx S=>if x=true then a τ S else b τ S
theorem ahv:kIf a b τ true S=a τ S:=rfl
theorem ahw:kIf a b τ false S=b τ S:=rfl
theorem vIf:cP c a b τ S=(c τ S).bP (kIf a b τ):=rfl
noncomputable def kRt:Tr->Cs->RS:=λt S=>.rt t S
theorem ahx:kRt t S = .rt t S:=rfl
theorem amw:aI f τ S=(f τ S).bP kRt:=rfl
noncomputable def kNx {α:Type}(τ:En):α -> Cs->RS:=λ_ S=>.nx τ S
theorem ahy {α:Type}{τ:En}{t:α}{S:Cs}:kNx τ t S = .nx τ S:=rfl
theorem ahz:di f τ S=(f τ S).bP (kNx τ):=rfl
noncomputable def lO (i:Nat)(τ:En):Tr->Cs->RS:=λt S=>.nx (τ.set i (some t)) S
theorem amx:aP i f τ S=(f τ S).bP (lO i τ):=rfl
noncomputable def kEn:En->Cs->RS:=λτ S=>.nx τ S
theorem ahA:kEn τ S = .nx τ S:=rfl
noncomputable def ahB (b:Tr->En->Cs->R En)(τ:En):Tr->Cs->RS:=λt S=>(b t τ S).bP kEn
theorem abg:ahB b τ t S=(b t τ S).bP kEn:=rfl
theorem amz:Ml f b τ S=(f τ S).bP (ahB b τ):=rfl
theorem ahC:aH τ S = .nx τ S:=rfl
noncomputable def Ek (cs:List Str)(f:Str)(τ:En)(t:Tr):Tr->Cs->RS:=λu S=>(o5 cs f u t S).bP (kNx τ)
theorem MM:Ek cs f τ t u S=(o5 cs f u t S).bP (kNx τ):=rfl
noncomputable def VE (cs:List Str)(f:Str)(fo:Em)(τ:En):Tr->Cs->RS:=λt S=>(fo τ S).bP (Ek cs f τ t)
theorem SO:VE cs f fo τ t S=(fo τ S).bP (Ek cs f τ t):=rfl
theorem ahD:bR cs f fo fv τ S=(fv τ S).bP (VE cs f fo τ):=rfl
noncomputable def kB:Tr->Cs->R Bool:=λt S=>match t with|.bl b=>.ok b S|_=>.aG
theorem amA:kB (.bl b) S = .ok b S:=rfl
theorem vB:mB f τ S=(f τ S).aE kB:=rfl
noncomputable def tX (g:Tr->Tr->Cs->R Tr)(fb:Em)(τ:En):Tr->Cs->R Tr:=λt S=>(fb τ S).aE (g t)
theorem abh:tX g fb τ t S=(fb τ S).aE (g t):=rfl
theorem amB:ai g fa fb τ S=(fa τ S).aE (tX g fb τ):=rfl
theorem vUn:mUn g fa τ S=(fa τ S).aE g:=rfl
theorem vC:mC t τ S = .ok t S:=rfl
theorem ahE:bQ g fr τ S=(fr τ S).aE g:=rfl
noncomputable def fj (t:Tr):List Tr->Cs->R (List Tr):=λts S=>.ok (t::ts) S
theorem MN:fj t ts S = .ok (t::ts) S:=rfl
noncomputable def MO (r:En->Cs->R (List Tr))(τ:En):Tr->Cs->R (List Tr):=λt S=>(r τ S).aE (fj t)
theorem SQ:MO r τ t S=(r τ S).aE (fj t):=rfl
theorem ahF:af f r τ S=(f τ S).aE (MO r τ):=rfl
theorem amC:ak τ S = .ok [] S:=rfl
noncomputable def zN:List Tr->Cs->R Tr:=λts S=>if ts.length<=sizeLine then .ok (.tp ts) S else .aG
theorem amD:cK fr τ S=(fr τ S).aE zN:=rfl
noncomputable def zO:List Tr->Cs->R Tr:=λts S=>if ts.length<=sizeLine then .ok (.ls ts) S else .aG
theorem amE:ig fr τ S=(fr τ S).aE zO:=rfl
noncomputable def VF:List Tr->Cs->R Tr:=λts S=>if ts.length<=sizeLine then .ok (.hd S.length) (S++[.bM ts]) else .aG
theorem ahG:oU fr τ S=(fr τ S).aE VF:=rfl
noncomputable def kFn (n:Nat)(q:Fn):List Tr->Cs->R Tr:=λts S=>if ts.length=n then q ts S else .aG
theorem vFn:e_ n q fr τ S=(fr τ S).aE (kFn n q):=rfl
noncomputable def tY (n:Nat)(q:Fn)(t:Tr):List Tr->Cs->R Tr:=λts S=>if (t::ts).length=n then q (t::ts) S else .aG
noncomputable def VG (c m:Str)(n:Nat)(q:Fn)(fr:En->Cs->R (List Tr))(τ:En):Tr->Cs->R Tr:=λt S1=>match t with
 |.hd i=>(match iC S1 i with
  |some (c',fs)=>if c'=c/\(aV m fs).isNone=true then (fr τ S1).aE (tY n q t) else .aG
  |none=>.aG)
 |_=>.aG
theorem SR:VG c m n q fr τ (.hd i) S=match iC S i with
  |some (c',fs)=>if c'=c/\(aV m fs).isNone=true then (fr τ S).aE (tY n q (.hd i)) else .aG
  |none=>.aG:=rfl
theorem ahH:aF c m n q fo fr τ S=(fo τ S).aE (VG c m n q fr τ):=rfl
noncomputable def tZ (k:Nat):Tr->Cs->R Tr:=λr S=>match r with|.br=>.ok (.hd k) S|_=>.aG
theorem MP:tZ k .br S = .ok (.hd k) S:=rfl
noncomputable def Gy (c:Str)(n:Nat)(q:Fn):List Tr->Cs->R Tr:=λts S1=>if ts.length+1=n then (q (.hd S1.length::ts) (S1++[.dZ c []])).aE (tZ S1.length) else .aG
theorem ahI:mw c n q fr τ S=(fr τ S).aE (Gy c n q):=by
 unfold mw Gy tZ;rfl
theorem amF:aQ cs f fo τ S=(fo τ S).aE (Jc cs f):=rfl
noncomputable def abi (a b:Em)(τ:En):Bool->Cs->R Tr:=λx S=>if x=true then a τ S else b τ S
theorem abj:abi a b τ true S=a τ S:=rfl
theorem abk:abi a b τ false S=b τ S:=rfl
theorem amG:Di c a b τ S=(c τ S).aE (abi a b τ):=rfl
noncomputable def ahJ:Tr->Cs->R Tr:=λt S=>match t with|.bl b=>.ok (.bl (!b)) S|_=>.aG
theorem abl:ahJ (.bl b) S = .ok (.bl (!b)) S:=rfl
theorem amH:Ma f τ S=(f τ S).aE ahJ:=rfl
noncomputable def abm (tb:En->Cs->R Bool)(τ:En):Bool->Cs->R Bool:=λx S=>if x=true then tb τ S else .ok false S
theorem abn:abm tb τ true S=tb τ S:=rfl
theorem abo:abm tb τ false S = .ok false S:=rfl
theorem amI:l9 ta tb τ S=(ta τ S).aE (abm tb τ):=rfl
noncomputable def kOr (tb:En->Cs->R Bool)(τ:En):Bool->Cs->R Bool:=λx S=>if x=true then .ok true S else tb τ S
theorem ahK:kOr tb τ true S = .ok true S:=rfl
theorem ahL:kOr tb τ false S=tb τ S:=rfl
theorem vOr:Dh ta tb τ S=(ta τ S).aE (kOr tb τ):=rfl
noncomputable def VH:Bool->Cs->R Bool:=λx S=>.ok (!x) S
theorem SS:VH x S = .ok (!x) S:=rfl
theorem ahM:rG ta τ S=(ta τ S).aE VH:=rfl
noncomputable def VI (fb:Em)(τ:En):Tr->Cs->R Tr:=λt S=>amr t (fb τ S) S
theorem SV:VI fb τ (.bl b) S=if b=true then fb τ S else .ok (.bl false) S:=by cases b<;>rfl
theorem ahN:IT fa fb τ S=(fa τ S).aE (VI fb τ):=rfl
noncomputable def ahO (fb:Em)(τ:En):Tr->Cs->R Tr:=λt S=>orV t (fb τ S) S
theorem abp:ahO fb τ (.bl b) S=if b=true then .ok (.bl true) S else fb τ S:=by cases b<;>rfl
theorem amK:mOr fa fb τ S=(fa τ S).aE (ahO fb τ):=rfl
noncomputable def ahP (ck:Cs->Tr->Bool)(g:Tr->List Tr->Cs->R Tr)(fr:En->Cs->R (List Tr))(τ:En):Tr->Cs->R Tr:=λt S=>if ck S t=true then (fr τ S).aE (g t) else .aG
theorem abq:ahP ck g fr τ t S=if ck S t=true then (fr τ S).aE (g t) else .aG:=rfl
theorem amL:rH ck g fo fr τ S=(fo τ S).aE (ahP ck g fr τ):=rfl
noncomputable def ahQ (b:Tr->En->Cs->R En)(f:Sm)(τ:En):Bp->Cs->RS:=λs S=>fV s.gP b f s.items τ S
theorem abr:ahQ b f τ s S=fV s.gP b f s.items τ S:=rfl
theorem amM:qo fi b f τ S=(fi τ S).bP (ahQ b f τ):=rfl
theorem vIt:tR g f τ S=(f τ S).aE g:=rfl
theorem ahR:Bw cs g fo τ S=(fo τ S).aE (Bv cs g):=rfl
noncomputable def MQ (n:Nat)(q:Fn)(cs:List Str)(l:Option Nat)(sh:Sm)(τ:En)(t:Tr):List Tr->Cs->RS:=λts S=>if (t::ts).length=n then kT cs l sh τ (q (t::ts) S) else .aG
theorem SW:MQ n q cs l sh τ t ts S=if (t::ts).length=n then kT cs l sh τ (q (t::ts) S) else .aG:=rfl
noncomputable def ahS (c m:Str)(n:Nat)(q:Fn)(fr:En->Cs->R (List Tr))(cs:List Str)(l:Option Nat)(sh:Sm)(τ:En):Tr->Cs->RS:=λt S1=>match t with
 |.hd i=>(match iC S1 i with
  |some (c',fs)=>if c'=c/\(aV m fs).isNone=true then (fr τ S1).bP (MQ n q cs l sh τ t) else .aG
  |none=>.aG)
 |_=>.aG
theorem abt:ahS c m n q fr cs l sh τ (.hd i) S=match iC S i with
  |some (c',fs)=>if c'=c/\(aV m fs).isNone=true then (fr τ S).bP (MQ n q cs l sh τ (.hd i)) else .aG
  |none=>.aG:=rfl
theorem amN:xu c m n q fo fr cs l sh τ S=(fo τ S).bP (ahS c m n q fr cs l sh τ):=rfl
theorem El:kT cs l sh τ (.ok t S) = .nx τ S:=rfl
theorem Jk:kT cs l sh τ (.ex e S)=match xq S e with|some (c,_)=>if c∈cs then xr l (sh (zM l (some (.hd e)) τ) S) else .aG|none=>.aG:=rfl
theorem SX:xr l (.nx τ S) = .nx (zM l none τ) S:=rfl
theorem SY:xr l (.rt t S) = .rt t S:=rfl
noncomputable def RS.S8 (r:RS):R Tr:=match r with|.nx _ S'=>.ok .br S' | .rt t S'=>.ok t S' | .ex n S'=>.ex n S' | _=>.aG
theorem S9 (τ:En)(S:Cs):(RS.nx τ S).S8 = .ok .br S:=rfl
theorem S_ (t:Nat)(S:Cs):(RS.ex t S).S8 = .ex t S:=rfl
theorem abu (t:Nat)(S:Cs)(g:Sm):(RS.ex t S).seq g = .ex t S:=rfl
theorem ahT (t:Nat)(S:Cs)(g:Sm):Vz (.ex t S) g = .ex t S:=rfl
noncomputable def MR (c:Str)(n:Nat)(gT:List Tr->List (Str×Tr))(Gw:List Tr):List Tr->Cs->RS:=λts S1=>if ts.length+Gw.length=n/\n<=1000 then .ex S1.length (S1++[.rF c (gT (ts++Gw))]) else .aG
theorem MS:MR c n gT Gw ts S=if ts.length+Gw.length=n/\n<=1000 then .ex S.length (S++[.rF c (gT (ts++Gw))]) else .aG:=rfl
theorem abv:zH c n gT Gw fr τ S=(fr τ S).bP (MR c n gT Gw):=rfl
theorem amO (i j:Nat)(fr:En->Cs->R (List Tr))(τ:En)(S:Cs):amn i j fr τ S=((fr τ S).bP λts S1=>match ts with|[t,u]=>.nx ((τ.set i (some t)).set j (some u)) S1|_=>.aG):=rfl
theorem Tc (cs:List Str)(f:Str)(g:Int->Int->Int)(fo fv:Em)(τ:En)(S:Cs):w_ cs f g fo fv τ S=((fo τ S).bP λt S1=>match t with
 |.hd n=>(match iC S1 n with
  |some (c,fs)=>if c∈cs then (match aV f fs with
   |some (.int i)=>(fv τ S1).bP λy S2=>(match y with
    |.int j=>(match iC S2 n with|some (c',Kc)=>if c'=c/\Kc.length<1000 then .nx τ (S2.set n (.dZ c (bY f (.int (g i j)) Kc))) else .aG|none=>.aG)
    |_=>.aG)
   |_=>.aG) else .aG
  |none=>.aG)
 |_=>.aG):=rfl
theorem MT (g g':Tr->Tr->Cs->R Tr)(fa fb fc:Em)(τ:En)(S:Cs):kH g g' fa fb fc τ S=((fa τ S).aE λt1 S1=>(fb τ S1).aE λt2 S2=>(g t1 t2 S2).aE λz S3=>match z with
 |.bl true=>(fc τ S3).aE λt3 S4=>g' t2 t3 S4
 |.bl false=>.ok (.bl false) S3
 |_=>.aG):=rfl
theorem abw (u:String)(fa:Em)(τ:En)(S:Cs):IZ u fa τ S=((fa τ S).aE λt S1=>match Ko S1 t with|some ty=>(match Bo ty u with|some b=>.ok (.bl b) S1|none=>.aG)|none=>.aG):=rfl
theorem Td (fo fe ff:Em)(τ:En)(S:Cs):Gp fo fe ff τ S=((fo τ S).aE λt S1=>if ckD S1 t=true then (fe τ S1).aE λj S2=>(ff τ S2).aE λu S3=>(match Qm S3 t,jo j with|some m,some q=>.ok ((aV q m).getD u) S3|_,_=>.aG) else .aG):=rfl
theorem MU  (u0:En) (S:Cs):Ef  u0 S=(.ok (.hd S.length) (S++[.jn []])):=rfl
theorem Te (ps:List (Em×Em))(τ:En)(S:Cs):Mu ps τ S=((Je ps τ (S++[.jn []])).aE λl S1=>match tP S1 S.length with
 |some []=>if l.length<=15 then .ok (.hd S.length) (S1.set S.length (.jn (fN [] l))) else .aG
 |_=>.aG):=rfl
theorem ahU (g:Tr->Option Int->Option Int->Cs->R Tr)(fa:Em)(fl fh:En->Cs->R (Option Int))(τ:En)(S:Cs):wZ g fa fl fh τ S=((fa τ S).aE λt S1=>(fl τ S1).aE λlo S2=>(fh τ S2).aE λhi S3=>g t lo hi S3):=rfl
theorem Tf (f:Em)(τ:En)(S:Cs):fY f τ S=((f τ S).aE λt S1=>match t with|.int i=>.ok (some i) S1|_=>.aG):=rfl
theorem Jl  (u0:En) (S:Cs):dG  u0 S=(.ok none S):=rfl
theorem Tg (fo fi fv:Em)(τ:En)(S:Cs):Gh fo fi fv τ S=((fv τ S).bP λt S1=>(fo τ S1).bP λu S2=>(fi τ S2).bP λj S3=>(o4 u j t S3).bP λ_ S4=>.nx τ S4):=rfl
theorem Th (n:Nat)(r:Bs)(t:Tr)(τ:En)(S:Cs):jq n r t τ S=(match Vu t with|some l=>if l.length=n then r l τ S else .aG|none=>.aG):=rfl
theorem Ti (b:Tr->En->Cs->R En)(r:Bs)(ts:List Tr)(τ:En)(S:Cs):eU b r ts τ S=(match ts with|t::l=>(b t τ S).aE λdY S1=>r l dY S1|[]=>.aG):=rfl
theorem abx  (ts:List Tr) (τ:En) (S:Cs):oZ  ts τ S=(match ts with|[]=>.ok τ S|_=>.aG):=rfl
theorem aby (fo fi:Em)(t:Tr)(τ:En)(S:Cs):aaK fo fi t τ S=((fo τ S).aE λu S1=>(fi τ S1).aE λj S2=>match u,j with
 |.hd n,.int i=>(match cL S2 n with|some l=>(match AA l.length i with|some m=>.ok τ (S2.set n (.bM (l.set m t)))|none=>.aG)|none=>.aG)
 |_,_=>.aG):=rfl
theorem Tj (fr:En->Cs->R (List Tr))(τ:En)(S:Cs):tS fr τ S=((fr τ S).aE λts S1=>match ts with
 |[.int j]=>wc (-(2 ^ 62)<=j/\j<2 ^ 62) (.ok ⟨rJ 0 j.toNat,λ_=>True⟩ S1) .aG
 |_=>.aG):=rfl
theorem ahV (st:Nat)(fr:En->Cs->R (List Tr))(τ:En)(S:Cs):mEn st fr τ S=((fr τ S).aE λts S1=>match ts with
 |[t]=>(iL t S1).aE λs S2=>.ok ⟨qU st s.items,s.gP⟩ S2
 |_=>.aG):=rfl
theorem amP (g:Int->Int->Tr)(t1:Tr)(t2:Tr)(S:Cs):gI g t1 t2 S=(match t1,t2 with
 |.int i,.int j=>.ok (g i j) S
 |_,_=>.aG):=rfl
theorem ahW (c:Int->Int->Bool)(g:Int->Int->Tr)(t1:Tr)(t2:Tr)(S:Cs):IU c g t1 t2 S=(match t1,t2 with
 |.int i,.int j=>if c i j=true then .ok (g i j) S else .aG
 |_,_=>.aG):=rfl
theorem abz  (t1:Tr) (t2:Tr) (S:Cs):bS  t1 t2 S=(match t1,t2 with
 |.int i,.int j=>.ok (.int (i+j)) S
 |.str a,.str b=>if a.length+b.length<=sizeLine then .ok (.str (a++b)) S else .aG
 |.tp a,.tp b=>if a.isEmpty=false/\a.length+b.length<=sizeLine then .ok (.tp (a++b)) S else .aG
 |t1,t2=>match Be S t1,Be S t2 with
  |some a,some b=>if a.length+b.length<=sizeLine then .ok (.ls (a++b)) S else .aG
  |_,_=>.aG):=rfl
theorem abA  (t1:Tr) (t2:Tr) (S:Cs):oW  t1 t2 S=(match t1,t2 with
 |.int i,.int j=>wc ((-(2 ^ 64)<i/\i<2 ^ 64)\/(-(2 ^ 64)<j/\j<2 ^ 64)) (.ok (.int (i * j)) S) .aG
 |.str a,.int n=>if 0<=n/\n<1000000/\a.length * n.toNat<=1000000 then .ok (.str (sZ a n.toNat)) S else .aG
 |_,_=>.aG):=rfl
theorem abC (neg:Bool)(a b:Str)(S:Cs):cR neg (.str a) (.str b) S = .ok (.bl (if neg=true then !decide (a=b) else decide (a=b))) S:=rfl
theorem abD (neg:Bool)(a b:Int)(S:Cs):cR neg (.int a) (.int b) S = .ok (.bl (if neg=true then !decide (a=b) else decide (a=b))) S:=rfl
theorem abE (neg:Bool)(a:Int)(S:Cs):cR neg (.int a) .br S = .ok (.bl (if neg=true then !false else false)) S:=rfl
theorem abF (neg:Bool)(S:Cs):cR neg .br .br S = .ok (.bl (if neg=true then !true else true)) S:=rfl
theorem abG (neg:Bool)(t1:Tr)(t2:Tr)(S:Cs):jh neg t1 t2 S=(match t2 with
 |.br=>.ok (.bl (if neg then !isN t1 else isN t1)) S
 |_=>.aG):=rfl
theorem ahX (neg:Bool)(t1:Tr)(t2:Tr)(S:Cs):AB neg t1 t2 S=(match t2 with
 |.str z=>(match t1 with|.str y=>.ok (.bl (if neg then !(!(Builtin.Str.occurrences z y 0 z.length 1).isEmpty) else !(Builtin.Str.occurrences z y 0 z.length 1).isEmpty)) S|_=>.aG)
 |t2=>match Bf S t2 with
  |some l=>if dW t1=true/\l.all dW=true then .ok (.bl (if neg then !Kn t1 l else Kn t1 l)) S else .aG
  |none=>.aG):=rfl
theorem abH (neg:Bool)(t1:Tr)(t2:Tr)(S:Cs):Bj neg t1 t2 S=(match Qm S t2,jo t1 with
 |some m,some j=>.ok (.bl (if neg then !(aV j m).isSome else (aV j m).isSome)) S
 |_,_=>.aG):=rfl
theorem MV  (t1:Tr) (t2:Tr) (S:Cs):bH  t1 t2 S=(match t1,t2 with
 |.str z,.int i=>if z.length<=sizeLine then (match iz z.cps.toList i with|some c=>.ok (.str ⟨#[c]⟩) S|none=>.aG) else .aG
 |t1,.int i=>(match Bf S t1 with
  |some l=>(match iz l i with|some t=>.ok t S|none=>.aG)
  |none=>.aG)
 |_,_=>.aG):=rfl
theorem abI  (ts:List Tr) (S:Cs):fU  ts S=(match ts with
 |[.str z]=>if z.length<=sizeLine then .ok (.int z.length) S else .aG
 |[t]=>(match Bf S t with|some l=>.ok (.int l.length) S|none=>match Qm S t with|some m=>.ok (.int m.length) S|none=>.aG)
 |_=>.aG):=rfl
theorem Tn  (ts:List Tr) (S:Cs):qR  ts S=(match ts with
 |[t]=>(match Bf S t with|some l=>.ok (.ls l) S|none=>.aG)
 |_=>.aG):=rfl
theorem abJ  (t:Tr) (ts:List Tr) (S:Cs):wg  t ts S=(match t,ts with
 |.hd n,[u]=>(match cL S n with|some l=>if l.length<sizeLine then .ok .br (S.set n (.bM (l++[u]))) else .aG|none=>.aG)
 |_,_=>.aG):=rfl
theorem abK  (t:Tr) (ts:List Tr) (S:Cs):R9  t ts S=(match t,ts with
 |.hd n,[u]=>(match cL S n,Be S u with|some l,some m=>if l.length+m.length<=sizeLine then .ok .br (S.set n (.bM (l++m))) else .aG|_,_=>.aG)
 |_,_=>.aG):=rfl
theorem To  (u0:En) (S:Cs):jr  u0 S=(.ok true S):=rfl
theorem Tp (fi:En->Cs->R Bp)(fr:List Nat)(n:Nat)(b:Tr->En->Cs->R En)(c:En->Cs->R Bool)(f:Em)(τ:En)(S:Cs):gq fi fr n b c f τ S=((fi τ S).aE λs S1=>(c8 s.gP b c f s.items (jC fr n τ) [] S1).aE λl S2=>.ok (.ls l) S2):=rfl
theorem amQ  (t:Tr) (S:Cs):iL  t S=(match t with
 |.ls l=>.ok ⟨l,λ_=>True⟩ S
 |.kl l=>.ok ⟨l,λ_=>True⟩ S
 |.hd n=>(match cL S n with|some l=>.ok ⟨l,λS'=>cL S' n=some l⟩ S|none=>.aG)
 |_=>.aG):=rfl
theorem abL  (t:Tr) (S:Cs):D9  t S=(match t with|.int i=>.ok (.int (-i)) S|_=>.aG):=rfl
section
variable {prog:Program}{w:World}{A:Around}{E:Value->Shared->Prop}{s:Shared}{Z TI TO i1 i2:Addr}{fp1 fp2:List Addr}{n1 n2 k:Nat}{Y1 Y2:Nat->Value->Prop}{S1 S2:Nat->Heap->Prop}{p q:Value}
end
section
variable {G:Gx}{k:Nat}{X:Cx}{a b c o e tg:Expr}{es:List Expr}{fa fb f:Em}{fr:En->Cs->R (List Tr)}{pos p:Pos}
end
theorem zP {α:Type}(x:α):(some (some x)).join=some x:=rfl
theorem gQ {gP:Cs->Prop}{b:Tr->En->Cs->R En}{f:Sm}{l:List Tr}{τ:En}{S:Cs}{Z:RS}(e:fV gP b f l τ S=Z)(I:Nat->En->Cs->Prop)(hc:∀i τ S,I i τ S->gP S)(h0:I 0 τ S)(hs:∀i t τ S,l[i]? = some t->I i τ S->∃j8 S2,((b t τ S).bP f = .nx j8 S2\/(b t τ S).bP f = .ct j8 S2)/\I (i+1) j8 S2):∃o8 S',I l.length o8 S'/\Z = .nx o8 S':=by
 have key:∀(l:List Tr) (n:Nat) (τ:En) (S:Cs),(∀i t τ S,l[i]? = some t->I (n+i) τ S->∃j8 S2,((b t τ S).bP f = .nx j8 S2\/(b t τ S).bP f = .ct j8 S2)/\I (n+i+1) j8 S2)->I n τ S->∃o8 S',I (n+l.length) o8 S'/\fV gP b f l τ S = .nx o8 S':=by
  intro l;induction l with
  |nil=>intro n τ S h h0;exact⟨τ,S,h0,by unfold fV;rw[if_pos (hc n τ S h0)]⟩
  |cons t r ih =>
   intro n τ S h h0;obtain⟨j8,S2,e,h2⟩:=h 0 t τ S rfl h0;obtain⟨τ3,S3,h3,e3⟩:=ih (n+1) j8 S2 (λi u τ S hu hI=>by
    have:=h (i+1) u τ S (by simpa using hu) (by rw[show n+(i+1)=n+1+i by omega];exact hI)
    rw[show n+(i+1)+1=n+1+i+1 by omega] at this
    exact this) h2
   refine⟨τ3,S3,by rw[zaB,show n+(r.length+1)=n+1+r.length by omega];exact h3,?_⟩
   conv=>lhs;unfold fV
   rw[if_pos (hc n τ S h0)];cases hb:b t τ S with
   |ok dY S1 =>
    rw[hb,R.fm] at e;rw[R.fm];rcases e with e|e
    ·rw[e,MA,e3]
    ·rw[e,ahq,e3]
   |ex n S1=>rw[hb,R.zq] at e;rcases e with e|e<;>cases e
   |aG=>rw[hb,R.Ba] at e;rcases e with e|e<;>cases e
 obtain⟨o8,S',h,e2⟩:=key l 0 τ S (λi t τ S ht hI=>by rw[zbT] at hI ⊢;exact hs i t τ S ht hI) h0
 rw[zbT] at h;exact⟨o8,S',h,by rw[<-e,e2]⟩
theorem xw {gP:Cs->Prop}{b:Tr->En->Cs->R En}{f:Em}(I:Nat->En->List Tr->Cs->Prop)(hc:∀i τ cA S,I i τ cA S->gP S):∀(l:List Tr) (n:Nat) (τ:En) (cA:List Tr) (S:Cs),
  (∀i t τ cA S,l[i]? = some t->I (n+i) τ cA S->∃dY u S3,b t τ S = .ok dY S/\f dY S = .ok u S3/\I (n+i+1) dY (cA++[u]) S3)->cA.length+l.length<=1000000->I n τ cA S->∃o8 Eo S',I (n+l.length) o8 Eo S'/\c8 gP b jr f l τ cA S = .ok Eo S'
 |[],n,τ,cA,S,h,hl,h0=>⟨τ,cA,S,h0,tW (hc n τ cA S h0)⟩
 |t::r,n,τ,cA,S,h,hl,h0=>by
  obtain⟨dY,u,S3,e1,e2,h2⟩:=h 0 t τ cA S rfl h0;have Ke:cA.length+1+r.length<=1000000:=by simp at hl;omega
  obtain⟨τ3,amR,S4,h3,e3⟩:=xw I hc r (n+1) dY (cA++[u]) S3 (λi u τ cA S hu hI=>by
   have:=h (i+1) u τ cA S (by simpa using hu) (by rw[show n+(i+1)=n+1+i by omega];exact hI)
   rw[show n+(i+1)+1=n+1+i+1 by omega] at this
   exact this) (by simp;omega) h2
  refine⟨τ3,amR,S4,by rw[zaB,show n+(r.length+1)=n+1+r.length by omega];exact h3,?_⟩
  rw[qV (hc n τ cA S h0),e1,gX,R.e9];show (jf (R.ok true S)).aE _=_
  rw[gX,R.e9,if_pos rfl,e2,gX,R.e9,if_pos (zak (by omega:cA.length<1000000) (by decide)),e3]
theorem xx {gP:Cs->Prop}{b:Tr->En->Cs->R En}{f:Em}{l:List Tr}{τ:En}{S:Cs}{Z:R (List Tr)}(e:c8 gP b jr f l τ [] S=Z)(I:Nat->En->List Tr->Cs->Prop)(hc:∀i τ cA S,I i τ cA S->gP S)(h0:I 0 τ [] S)(hl:l.length<=1000000)
  (hs:∀i t τ cA S,l[i]? = some t->I i τ cA S->∃dY u S3,b t τ S = .ok dY S/\f dY S = .ok u S3/\I (i+1) dY (cA++[u]) S3):∃o8 Eo S',I l.length o8 Eo S'/\Z = .ok Eo S':=by
 obtain⟨o8,Eo,S',h,e2⟩:=xw I hc l 0 τ [] S (λi t τ cA S ht hI=>by rw[zbT] at hI ⊢;exact hs i t τ cA S ht hI) (by simpa using hl) h0
 rw[zbT] at h;exact⟨o8,Eo,S',h,by rw[<-e,e2]⟩
noncomputable def amS (S S':Cs):Prop:=∃J,S'=S++J
end L2
namespace L2
open PySem PySem.Spec PyProof.Rows
section
variable {K:W.Frag}{cl:Str->Addr}{k j0 n:Nat}{X:Cx}{g B:Addr}{fd:FuncData}{ps:List Str}{q:Fn}{x y nn fn cB:Str}{xp p cp ap np yp np2 bp hp pos:Pos}{e:Expr}{es:List Expr}{fr:En->Cs->R (List Tr)}{i j l:Nat}{cs:List Str}
 {Vn q':Str} {N':Addr} {Vo:List Value} {qQ:Bool} {Vp:List Str} {A6:List Value} {Vq:Bool} {A7:Option Bool} {Dc:Option Addr} {j1 j2 j3 j4 j5:Option Value} {l7:String}
end
noncomputable def ahZ (K:W.Frag)(neg:Bool):R2:=λx y H Q=>∃a b xs ys,x = .ref a/\y = .ref b/\jk K H a xs/\jk K H b ys/\xs.length≠ys.length/\Q (.bl neg) H
theorem MW (hu:X.A.units<cLine):ki X (compareOp .Eq) (ahZ X.K false):=by
 intro ah s σ H x y v u Q I rx ry h;obtain⟨a,b,xs,ys,rfl,rfl,hp,hq,hn,k⟩:=h;cases rx;cases ry;obtain⟨bu,r1,p1,_⟩:=I.list hp;obtain⟨ie,r2,p2,_⟩:=I.list hq;have l1:=r1.length;have l2:=r2.length;exact SeqAt.eq_list_lengthsAt p1.isList p2.isList (by simp;omega) hu ⟨.bl false,H,I,rfl,k⟩
theorem MX (hu:X.A.units<cLine):ki X (compareOp .NotEq) (ahZ X.K true):=by
 intro ah s σ H x y v u Q I rx ry h;obtain⟨a,b,xs,ys,rfl,rfl,hp,hq,hn,k⟩:=h;cases rx;cases ry;obtain⟨bu,r1,p1,_⟩:=I.list hp;obtain⟨ie,r2,p2,_⟩:=I.list hq;have l1:=r1.length;have l2:=r2.length;have h:=SeqAt.RcNeAt.lists_lengths p1.isList p2.isList (by simp;omega) (show X.A.units<cLine from hu)
 exact h X.prog X.w _ _ ⟨.bl true,H,I,rfl,k⟩
noncomputable def nQ (neg:Bool):Tr->Tr->Cs->R Tr:=λt1 t2 S=>match Gb S t1,Gb S t2 with
 |some l,some m=>if l.length=m.length then cR neg t1 t2 S else .ok (.bl neg) S
 |_,_=>.aG
theorem MY {neg:Bool}:nv G k (compareOp (if neg then .NotEq else .Eq)) (nQ neg):=.mk<|λX o ah s σ H x y v u Q I rx ry dR=>by
 obtain⟨w,S,t1,t2,hr,r1,r2,q⟩:=dR;unfold nQ at q;split at q
 ·rename_i l m e1 e2
  split at q
  ·exact (Mc (G:=G) (k:=k) (neg:=neg)).kj X o ah s σ H x y v u Q I rx ry ⟨w,S,t1,t2,hr,r1,r2,q⟩
  ·rename_i hn
   obtain⟨a,xs,ea,sx,rx'⟩:=mh hr r1 e1;obtain⟨b,ys,eb,sy,ry'⟩:=mh hr r2 e2;rw[<-o.K] at sx sy;have q:=q w H _ (.refl w) hr gJ
   have hl:xs.length≠ys.length:=by rw[rx'.len,ry'.len];exact hn
   cases neg with
   |true=>exact MX (zcB (zcm _ _) o.hu) ah s σ H x y v u Q I rx ry ⟨a,b,xs,ys,ea,eb,sx,sy,hl,q⟩
   |false=>exact MW (zcB (zcm _ _) o.hu) ah s σ H x y v u Q I rx ry ⟨a,b,xs,ys,ea,eb,sx,sy,hl,q⟩
 ·exact q.elim
theorem ah0:nv G k (compareOp .Eq) (nQ false):=MY (neg:=false)
theorem ah1:nv G k (compareOp .NotEq) (nQ true):=MY (neg:=true)
section
variable {G:Gx}{k:Nat}{X:Cx}{a b c o e tg:Expr}{es:List Expr}{fa fb f:Em}{fr:En->Cs->R (List Tr)}{pos p:Pos}
end
end L2
namespace L2
open PySem PySem.Spec PyProof.Rows
section
variable {prog:Program}{w:World}{A:Around}{R:Result->Shared->Prop}{I:Addr}{fp wr:List Addr}{G:Array GenState->Array GenState->Prop}{n:Nat}{P:Nat->Value->Prop}{St:Nat->Shared->Prop}
end
section
variable {prog:Program}{w:World}{A:Around}{E:Value->Shared->Prop}{s:Shared}
end
end L2
namespace L2
open PySem PySem.Spec PyProof.Rows
end L2
namespace L2
open PySem PySem.Spec PyProof.Rows
section
variable {X:Cx}{k:Nat}{g B:Addr}{fd:FuncData}{ps:List Str}{sp:Sp}{e:Expr}{es:List Expr}{t:TA}{n fn cB:Str}{l:Nat}{p cp np ep hp pos:Pos}{lC:List Stmt}{rL:Stmt}{ts:TS}
 {Vn q':Str} {N':Addr} {Vo Kg:List Value} {qQ:Bool} {Vp:List Str} {A6:List Value} {Vq:Bool} {A7:Option Bool} {Dc:Option Addr} {j0 j1 j2 j3 j5:Option Value} {l7:String}
end
section
variable {K:W.Frag}{cl:Str->Addr}{k j n:Nat}{X:Cx}{g B:Addr}{fd:FuncData}{ps:List Str}{q:Fn}{cB nn fn:Str}{p cp np ep hp pos:Pos}{e:Expr}{es:List Expr}{fr:En->Cs->R (List Tr)}{lC:List Stmt}{rL:Stmt}{sh:Sm}{l:Nat}{cs:List Str}
end
noncomputable def keysOf:List Tr->Option (List dI)
 |[]=>some []
 |t::r=>(match jo t,keysOf r with|some k,some l=>some (k::l)|_,_=>none)
noncomputable def MZ:Tr->Option (List dI)|.tp l=>keysOf l|_=>none
noncomputable def M0 (S:Cs)(t1 t2:Tr):Option (Option Tr):=match t1 with
 |.hd n=>(match S[n]? with
  |some (.jn l)=>(jo t2).map λq=>aV q l
  |some (.v_ l)=>(jo t2).map λq=>aV q l
  |some (.Ql l)=>(MZ t2).map λq=>aV q l
  |some (.D0 l)=>(MZ t2).map λq=>aV q l
  |_=>none)
 |_=>none
theorem xy:∀{l:List Tr} {q:List dI} {xs:List V},keysOf l=some q->bJ w l xs->xs=q.map kV
 |[],q,xs,e,r=>by cases e;rw[r.cC];rfl
 |t::l,q,xs,e,r=>by
  obtain⟨x,r',rfl,h1,h2⟩:=r.bE;unfold keysOf at e;split at e
  ·rename_i k1 l1 e1 e2
   cases e;rw[g9 e1 h1,xy e2 h2];rfl
  ·cases e
theorem Bx (e:MZ t=some q)(r:RT w t v):∃p,v = .ref p/\w.F p=some (.gE (q.map kV)):=by
 cases t with
 |tp l =>
  unfold RT at r;obtain⟨p,xs,rfl,h,r⟩:=r;rw[xy e r] at h;exact⟨p,rfl,h⟩
 |_=>cases e
noncomputable def VJ (w:Wd)(ot:Option Tr)(ov:Option V):Prop:=match ot with|some t=>∃v,ov=some v/\RT w t v|none=>ov=none
theorem mY {κ:Type}[DecidableEq κ]{l:List (κ × Tr)}{m:List (κ × V)}(r:RK w l m)(j:κ):VJ w (aV j l) (lM m j):=by
 obtain⟨h1,h2⟩:=oX (k:=j) r
 cases e:aV j l with
 |none=>exact h2 e
 |some t=>exact h1 t e
theorem Tq {S:Cs}{H:Hp}(hr:HR G w S H)(r1:RT w t1 x)(r2:RT w t2 y)(e:M0 S t1 t2=some ot):∃p ov,x = .ref p/\nL H p y ov/\VJ w ot ov:=by
 unfold M0 at e;split at e
 ·rename_i n
  have hx:=r1.cY.2;split at e
  ·rename_i l en
   rw[zbH] at e;obtain⟨q,ek,rfl⟩:=e;obtain⟨aO,h1,h2⟩:=hr.cell _ _ en;exact⟨_,_,hx,.inl ⟨aO,q,.inl h1,g9 ek r2,rfl⟩,mY h2 q⟩
  ·rename_i l en
   rw[zbH] at e;obtain⟨q,ek,rfl⟩:=e;obtain⟨ob,aO,h1,h2⟩:=hr.cell _ _ en;exact⟨_,_,hx,.inl ⟨aO,q,.inr ⟨ob,hr.sub _ _ h1⟩,g9 ek r2,rfl⟩,mY h2 q⟩
  ·rename_i l en
   rw[zbH] at e;obtain⟨q,ek,rfl⟩:=e;obtain⟨aO,h1,h2⟩:=hr.cell _ _ en;obtain⟨p,ey,hp⟩:=Bx ek r2;exact⟨_,_,hx,.inr ⟨aO,q,p,.inl h1,ey,hr.sub _ _ hp,rfl⟩,mY h2 q⟩
  ·rename_i l en
   rw[zbH] at e;obtain⟨q,ek,rfl⟩:=e;obtain⟨ob,aO,h1,h2⟩:=hr.cell _ _ en;obtain⟨p,ey,hp⟩:=Bx ek r2;exact⟨_,_,hx,.inr ⟨aO,q,p,.inr ⟨ob,hr.sub _ _ h1⟩,ey,hr.sub _ _ hp,rfl⟩,mY h2 q⟩
  ·cases e
 ·cases e
noncomputable def M7:Tr->Tr->Cs->R Tr:=λt1 t2 S=>match M0 S t1 t2 with|some (some t)=>.ok t S|_=>.aG
theorem abM (ha:TV G k X a fa)(hb:TV G k X b fb)(hs:autoParam (ZA b) zp_8):TV G k X (.Subscript a b pos) (ai M7 fa fb):=.mk<|λo=>(Q3 o.hu1 (ha o) (hb o) hs).wk λσ H Q h=>by
 obtain⟨w,S,τ,hr,sl,q⟩:=qd h;refine⟨w,S,τ,hr,sl,q.mono λx H1 ⟨w1,S1,dY,bN,DY,q1⟩=>⟨w1,S1,dY,bN,DY,q1.mono λy H2 iU=>?_⟩⟩
 obtain⟨w2,S2,t1,t2,dQ,r1,r2,q2⟩:=iU;unfold M7 at q2;split at q2
 ·rename_i t et
  obtain⟨p,ov,ex,g,v,rfl,rv⟩:=Tq dQ r1 r2 et;exact⟨p,v,ex,g,q2 w2 H2 v (.refl _) dQ rv⟩
 ·exact q2.elim
theorem HR.M8 (h:HR G w S H){c c':Ce}(e:S[i]? = some c)(hc:c.fz=false)(Qw:c'.fz=true)(ok:∀w':Wd,w.le w'->w'.F (w.ρ i)=some o'->bG G w' (bF H (w.ρ i) o') (w.ρ i) c'):
  HR G {w with F:=bF w.F (w.ρ i) o' } (S.set i c') (bF H (w.ρ i) o')/\w.le {w with F:=bF w.F (w.ρ i) o' }:=by
 have hi:=(zab.mp e).1
 have li:eS S i:=⟨c,e,hc⟩
 have hF:w.F (w.ρ i)=none:=by rw[h.F];unfold Fz;rw[if_pos (.inl ⟨i,li,rfl⟩)]
 have le:w.le {w with F:=bF w.F (w.ρ i) o' }:=⟨rfl,zah _,λ_ _=>rfl,λb u eb=>kF hF eb,rfl⟩
 have lv:∀j,eS (S.set i c') j->eS S j/\j≠i:=λj jQ=>by
  obtain⟨d,ed,hd⟩:=jQ;by_cases hj:i=j
  ·subst hj
   rw[zaz hi] at ed;cases ed;rw[Qw] at hd;cases hd
  ·rw[zax hj] at ed
   exact⟨⟨d,ed,hd⟩,λz=>hj z.symm⟩
 have lv2:∀j,eS S j->j≠i->eS (S.set i c') j:=λj ⟨d,ed,hd⟩ hj=>⟨d,by rw[zax (λz=>hj z.symm)];exact ed,hd⟩
 refine⟨⟨h.K,by simp[h.n],?_,λj d ej=>?_,λa b la lb=>h.inj a b (lv a la).1 (lv b lb).1,zo h.hid (h.jP i li),λj lj=>h.jP j (lv j lj).1,h.hl⟩,le⟩
 ·show bF w.F (w.ρ i) o'=Fz w.ρ w.hid (S.set i c') (bF H (w.ρ i) o')
  funext b
  unfold Fz;by_cases hb:b=w.ρ i
  ·subst hb
   rw[ay,if_neg,ay];rintro (⟨j,lj,z⟩|z)
   ·exact (lv j lj).2 (h.inj j i (lv j lj).1 li z)
   ·exact z (h.jP i li)
  ·rw[au hb,au hb,h.F]
   unfold Fz;have Vt:(∃j,eS (S.set i c') j/\w.ρ j=b)↔∃j,eS S j/\w.ρ j=b:=⟨λoS=>by obtain⟨j,lj,z⟩:=oS;exact⟨j,(lv j lj).1,z⟩,λkJ=>by obtain⟨j,lj,z⟩:=kJ;exact⟨j,lv2 j lj (λq=>hb (by rw[<-z,q])),z⟩⟩
   by_cases hx:(∃j,eS S j/\w.ρ j=b)\/w.hid b≠none
   ·rw[if_pos hx,if_pos (hx.imp Vt.mpr λz=>z)]
   ·rw[if_neg hx,if_neg (λz=>hx (z.imp Vt.mp λz=>z))]
 ·by_cases hj:i=j
  ·subst hj
   rw[zaz hi] at ej;cases ej;exact ok _ le ay
  ·rw[zax hj] at ej
   cases hd:d.fz with
   |true=>exact bG.LU le hd (h.cell j d ej)
   |false =>
    refine (h.cell j d ej).mono le λu eu=>?_
    rw[au λz=>hj (h.inj i j li ⟨d,ej,hd⟩ z.symm)]
    exact eu
noncomputable def M9:dI->Tr|.inl i=>.int i|.inr x=>.str x
noncomputable def iD:Tr->Cs->R Bp:=λt S=>match t with
 |.hd n=>(match S[n]? with
  |some (.jn l)=>.ok ⟨l.map λp=>M9 p.1,λ_=>True⟩ (S.set n (.v_ l))
  |some (.v_ l)=>.ok ⟨l.map λp=>M9 p.1,λ_=>True⟩ S
  |some (.Ql l)=>.ok ⟨l.map λp=>.tp (p.1.map M9),λ_=>True⟩ (S.set n (.D0 l))
  |some (.D0 l)=>.ok ⟨l.map λp=>.tp (p.1.map M9),λ_=>True⟩ S
  |_=>.aG)
 |_=>.aG
theorem abN (q:dI):RT w (M9 q) (kV q):=by
 cases q with
 |inl i=>exact dU
 |inr x=>exact kG
theorem zQ:∀q:List dI,bJ w (q.map M9) (q.map kV)
 |[]=>.nil
 |k::r=>.cons (abN k) (zQ r)
theorem zR {a:Addr}(hF:w.F a=some (.pP ob u))(R:bJ w l ks):Sh G w ⟨l,λ_=>True⟩ (Itd a ob u ks):=λw1 S1 H1 i hK hn iP hF1 bN _=>by
 have ha:=bN.sub _ _ (hF1 _ _ hF)
 have R1:=R.xg hK hn iP hF1;refine⟨λt et=>?_,λhi=>⟨ha,by rw[R.len,hi];exact zah _⟩⟩
 obtain⟨v,ev,rv⟩:=R1.get et;refine⟨⟨ha,(zab.mp ev).1⟩,λx H2 ⟨e2,ex⟩=>?_⟩
 subst e2;rw[ev] at ex;cases ex;exact⟨w1,.refl _,bN,rv⟩
theorem VL (r:RK w l aO):bJ w (l.map λp=>M9 p.1) (aO.map λp=>kV p.1):=by
 have e1:(l.map λp=>M9 p.1)=(l.map Prod.fst).map M9:=by rw[zbt];rfl
 have e2:(aO.map λp=>kV p.1)=(aO.map Prod.fst).map kV:=by rw[zbt];rfl
 rw[e1,e2,r.1];exact zQ _
theorem M_ {H:Hp}{S:Cs}(ah2:∀b xs,H b=some (.gE xs)->w.F b=some (.gE xs)):∀{aO:List (List dI×V)} {ks:List V},Paired (λ(p:List dI×V) (x:V)=>∃b,x = .ref b/\H b=some (.gE (p.1.map kV))) aO ks->bJ w ((aO.map Prod.fst).map λq=>.tp (q.map M9)) ks
 |_,_,.nil=>.nil
 |_,_,.cons ⟨b,ex,hb⟩ t=>.cons (by unfold RT;exact⟨b,_,ex,ah2 _ _ hb,zQ _⟩) (M_ (S:=S) ah2 t)
theorem HR.ah3 (h:HR G w S H){b:Addr}(hb:H b=some (.gE xs)):w.F b=some (.gE xs):=by
 rw[h.F];unfold Fz;rw[if_neg,hb];rintro (⟨i,⟨c,e,n⟩,z⟩|z)
 ·have hc:=h.cell i c e
  rw[z] at hc;cases c with
  |bM l=>obtain⟨_,q,_⟩:=hc;rw[hb] at q;cases q
  |jn l=>obtain⟨_,q,_⟩:=hc;rw[hb] at q;cases q
  |Ql l=>obtain⟨_,q,_⟩:=hc;rw[hb] at q;cases q
  |dZ c l=>obtain⟨_,_,q,_⟩:=hc;rw[hb] at q;cases q
  |rF c l=>obtain⟨_,_,_,q,_⟩:=hc;rw[hb] at q;cases q
  |tF=>cases n
  |v_ l=>cases n
  |D0 l=>cases n
 ·cases e:w.hid b with
  |none=>exact z e
  |some u =>
   have:=h.hid b u e
   rw[hb] at this;cases this;exact h.hl b xs e
theorem Tt (ha:TV G k X a fa):Qo G k X tg a (tR iD fa):=.mk<|λox=>(RM (ha ox)).wk λσ H Q h=>by
 obtain⟨w,S,τ,hr,sl,q⟩:=h;refine⟨w,S,τ,hr,sl,(bA.aE q).mono λx H1 cy=>?_⟩
 obtain⟨w1,S1,t1,dz,bN,r1,_,q1⟩:=cy;unfold iD at q1;split at q1
 ·rename_i n _
  have hx:=r1.cY.2;split at q1
  ·rename_i l en
   obtain⟨aO,h1,h2⟩:=bN.cell _ _ en;refine⟨_,.dK aO,hx,trivial,.inl ⟨h1,λob ks hk=>?_⟩⟩
   obtain⟨dQ,fM⟩:=bN.M8 en rfl (c':=.v_ l) rfl (o':=.pP ob (.dK aO)) (λw' le' hF=>⟨ob,aO,hF,h2.mono le'⟩)
   cases (show ks=_ from hk)
   exact q1 _ _ _ fM dQ (zR ay (VL (h2.mono fM)))
  ·rename_i l en
   obtain⟨ob,aO,h1,h2⟩:=bN.cell _ _ en;refine⟨_,.dK aO,hx,trivial,.inr ⟨ob,bN.sub _ _ h1,λks hk=>?_⟩⟩
   cases (show ks=_ from hk)
   exact q1 _ _ _ (.refl _) bN (zR h1 (VL h2))
  ·rename_i l en
   obtain⟨aO,h1,h2⟩:=bN.cell _ _ en;refine⟨_,.dT aO,hx,trivial,.inl ⟨h1,λob ks hk=>?_⟩⟩
   obtain⟨dQ,fM⟩:=bN.M8 en rfl (c':=.D0 l) rfl (o':=.pP ob (.dT aO)) (λw' le' hF=>⟨ob,aO,hF,h2.mono le'⟩)
   have R:=M_ (S:=S1) (w:={w1 with F:=bF w1.F (w1.ρ n) (.pP ob (.dT aO))}) (λb xs hb=>fM.F _ _ (bN.ah3 hb)) hk
   rw[h2.1,zbt] at R;exact q1 _ _ _ fM dQ (zR ay R)
  ·rename_i l en
   obtain⟨ob,aO,h1,h2⟩:=bN.cell _ _ en;refine⟨_,.dT aO,hx,trivial,.inr ⟨ob,bN.sub _ _ h1,λks hk=>?_⟩⟩
   have R:=M_ (S:=S1) (λb xs hb=>bN.ah3 hb) hk
   rw[h2.1,zbt] at R;exact q1 _ _ _ (.refl _) bN (zR h1 R)
  ·exact q1.elim
 ·exact q1.elim
noncomputable def pA (H:Hp):List V->List (dI×V)->Prop
 |[],[]=>True
 |x::xs,(q,v)::r=>(∃a,x = .ref a/\H a=some (.gE [kV q,v]))/\pA H xs r
 |_,_=>False
theorem pA.len:∀{xs:List V} {r:List (dI×V)},pA H xs r->xs.length=r.length
 |[],[],_=>rfl
 |x::xs,(q,v)::r,h=>by simp[pA.len h.2]
 |[],_::_,h=>h.elim
 |_::_,[],h=>h.elim
theorem pA.get:∀{xs:List V} {r:List (dI×V)} {i:Nat} {x:V},pA H xs r->xs[i]? = some x->∃q v a,r[i]? = some (q,v)/\x = .ref a/\H a=some (.gE [kV q,v])
 |[],[],i,x,_,e=>by simp at e
 |y::xs,(q,v)::r,0,x,h,e=>by
  simp at e
  subst e;obtain⟨a,e1,e2⟩:=h.1;exact⟨q,v,a,rfl,e1,e2⟩
 |y::xs,(q,v)::r,i+1,x,h,e=>by simpa using pA.get (i:=i) h.2 (by simpa using e)
 |[],_::_,_,_,h,_=>h.elim
 |_::_,[],_,_,h,_=>h.elim
theorem Gz {r:List (dI×V)}(h:∀i q v,r[i]? = some (q,v)->(kv i).1=q/\bI v (kv i).2):∀n,n<=r.length->KV (gm [] (r.take n)) (tE kv n)
 |0,_=>.nil
 |n+1,hn=>by
  have ih:=Gz h n (by omega)
  have e:r.take (n+1)=r.take n++[r[n]'(by omega)]:=by rw[List.take_add_one,zad (by omega)];rfl
  obtain⟨e1,e2⟩:=h n (r[n]'(by omega)).1 (r[n]'(by omega)).2 (zad (by omega))
  rw[e];unfold gm tE;rw[List.foldl_append];show KV (ko (gm [] (r.take n)) (r[n]'(by omega)).1 (r[n]'(by omega)).2) (stored (tE kv n) (kv n).1 (kv n).2)
  rw[e1];exact ih.DI _ e2
theorem Ep (hc:X.fX=true):jJ X (.type "dict") (λxs H Q=>∃(p:Addr) (ys:List V) (r:List (dI×V)),xs=[.ref p]/\H p=some (.bM ys)/\pA H ys r/\r.length<=1000/\∀l,H l=none->Q (.ref l) (bF H l (.dK (gm [] r)))):=by
 intro ah s σ H xs us Q I rr h;obtain⟨p,ys,r,rfl,hp,hr,hl,q⟩:=h;obtain⟨u,rfl,ru⟩:=sP rr;cases ru;obtain⟨bu,n,rv,e,_⟩:=I.bM hp;have dB:bu.length=r.length:=by rw[<-rv.length,hr.len]
 -- Dn afh,pT and pZ of Dn aph
 have rq:∀i,i<r.length->∃(a:Addr) (kk vv:Value),bu[i]? = some (.ref a)/\qb s.heap a kk vv/\lT (r.getD i (.inl 0,.br)).1 kk=true/\bI (r.getD i (.inl 0,.br)).2 vv:=λi hi=>by
  have hy:i<ys.length:=by rw[hr.len];exact hi
  obtain⟨kq,v,a,e1,e2,e3⟩:=hr.get (zad hy)
  obtain⟨u,hu,ru⟩:=rv.get (zad hy)
  rw[e2] at ru;cases (show u=Value.ref a from ru)
  obtain⟨_,ws,DJ,ob,ho,oc,m,od⟩:=(show cD X.prog X.w H s.heap a (.gE [kV kq,v]) from I.b_ a _ e3)
  obtain⟨w1,w2,rfl,g1,g2⟩:=DJ.two;have eg:r.getD i (.inl 0,.br)=(kq,v):=by rw[zdl,e1];rfl
  rw[eg];exact⟨a,w1,w2,hu,⟨ob,m,ho,oc,od⟩,qM (P:=X.prog) (w:=X.w) g1,g2⟩
 let ad:Nat->Addr:=λi=>if h:i<r.length then (rq i h).choose else 0
 let kk:Nat->Value:=λi=>if h:i<r.length then (rq i h).choose_spec.choose else .none
 let kv:Nat->dI×Value:=λi=>if h:i<r.length then ((r.getD i (.inl 0,.br)).1,(rq i h).choose_spec.choose_spec.choose) else (.inl 0,.none)
 have spec:∀i,i<r.length->bu[i]? = some (.ref (ad i))/\qb s.heap (ad i) (kk i) (kv i).2/\lT (kv i).1 (kk i)=true/\(kv i).1=(r.getD i (.inl 0,.br)).1/\bI (r.getD i (.inl 0,.br)).2 (kv i).2:=λi hi=>by
  have:=(rq i hi).choose_spec.choose_spec.choose_spec
  simp only[ad,kk,kv,dif_pos hi];exact⟨this.1,this.2.1,this.2.2.1,trivial,this.2.2.2⟩
 have hsz:bu.toArray.size=r.length:=by simp[dB]
 refine rE (ad:=ad) (kk:=kk) (kv:=kv) (I.ok.hd hc) e (λi v hv=>?_) (λi hi=>(spec i (by omega)).2.2.1) (by omega) (λm hm=>(spec m (by omega)).2.1) λh' tk hS hk=>?_
 ·have hv:bu[i]? = some v:=by simpa using hv
  have hi:i<r.length:=by rw[<-dB];exact (zab.mp hv).1
  rw[(spec i hi).1] at hv;exact (zav hv).symm
 ·rw[hsz] at hS
  have hkv:KV (gm [] r) (tE kv r.length):=by
   have:=Gz (kv:=kv) (r:=r) (λi kq v e1=>by
    have hi:i<r.length:=(zab.mp e1).1
    have eg:r.getD i (.inl 0,.br)=(kq,v):=by rw[zdl,e1];rfl
    obtain⟨_,_,_,s4,s5⟩:=spec i hi;rw[eg] at s4 s5;exact⟨s4,s5⟩) r.length (zah _)
   rwa[zaF] at this
  refine⟨.ref s.heap.objs.size,_,I.jF (t':=tk) hk (zah _) (show cD X.prog X.w _ _ _ (.dK (gm [] r)) from ⟨?_,beq_eq_false_iff_ne.mpr (zbc (zar I.big)),_,hkv,hS⟩),rfl,q _ (I.b_.fresh (zah _))⟩
  have h1:=zm kv r.length;rw[hkv.length];exact zai h1 (zai hl (by decide))
noncomputable def qv:List Tr->Option (List (dI×Tr))
 |[]=>some []
 |.tp [a,b]::r=>(match jo a,qv r with|some q,some l=>some ((q,b)::l)|_,_=>none)
 |_=>none
noncomputable def zS:List Tr->Cs->R Tr:=λts S=>match ts with
 |[t]=>(match Be S t with|some l=>(match qv l with|some ps=>if ps.length<=1000 then .ok (.hd S.length) (S++[.jn (fN [] ps)]) else .aG|none=>.aG)|none=>.aG)
 |_=>.aG
theorem xA (hF:∀b o,w.F b=some o->H b=some o):∀{l:List Tr} {ps:List (dI×Tr)} {xs:List V},qv l=some ps->bJ w l xs->∃r,pA H xs r/\RK w ps r
 |[],ps,xs,e,rt=>by cases e;rw[rt.cC];exact⟨[],trivial,.nil⟩
 |.tp [a,b]::l,ps,xs,e,rt=>by
  obtain⟨x,xs',rfl,h1,h2⟩:=rt.bE;unfold qv at e;split at e
  ·rename_i q l' e1 e2
   cases e;obtain⟨r,g1,g2⟩:=xA hF e2 h2;unfold RT at h1;obtain⟨ad,ys,rfl,hy,ry⟩:=h1;obtain⟨y1,y2,rfl,ra,rb⟩:=Gf ry;rw[g9 e1 ra] at hy;exact⟨(q,y2)::r,⟨⟨ad,rfl,hF _ _ hy⟩,g1⟩,.cons rb g2⟩
  ·cases e
 |.br::_,_,_,e,_|.bl _::_,_,_,e,_|.int _::_,_,_,e,_|.str _::_,_,_,e,_|.ls _::_,_,_,e,_|.kt _::_,_,_,e,_|.kl _::_,_,_,e,_|.hd _::_,_,_,e,_=>by cases e
 |.tp []::_,_,_,e,_|.tp [_]::_,_,_,e,_|.tp (_::_::_::_)::_,_,_,e,_=>by cases e
theorem Tu (hk:autoParam (0<k) zp_2):nE G k (.type "dict") zS:=.mk<|λX o ah s σ H xs us Q I rv cy=>by
 obtain⟨w,S,ts,hr,r,q⟩:=cy;unfold zS at q;split at q
 ·obtain⟨x,rfl,r1⟩:=gf r
  split at q
  ·rename_i l el
   split at q
   ·rename_i ps ep
    split at q
    ·rename_i hl
     obtain⟨a,ys,rfl,ha,ry⟩:=l_ hr r1 el;obtain⟨rp,h1,h2⟩:=xA hr.sub ep ry;refine Ep (o.fX hk) ah s σ H _ us Q I rv ⟨a,ys,rp,rfl,ha,h1,by rw[h2.len];exact hl,λp hp=>?_⟩
     obtain⟨dQ,le⟩:=hr.IQ (c:=.jn (fN [] ps)) hp (o:=.dK (gm [] rp)) rfl ⟨_,ay,(RK.AU h2 .nil).mono (w.tH p)⟩
     refine q _ _ _ le dQ ?_
     unfold RT;exact⟨by show S.length<w.n+1;rw[hr.n];exact zbi _,by show V.ref p=V.ref (if S.length=w.n then p else w.ρ S.length);rw[if_pos hr.n.symm]⟩
    ·exact q.elim
   ·exact q.elim
  ·exact q.elim
 ·exact q.elim
section
variable {a0 a1 a2 a3 a4 a5 a6 a7 a8 a9 oh wj GA a13 a14 a15 a16 a17 a18 a19:Option Tr}{x0 x1 x2 x3 x4 x5 x6 x7 x8 x9 gF gz Tv t y:Tr}{n0 n1 n2 n3 n4 n5 n6 n7 n8 n9 n10 n11 n12 n13 n14 n15 n16 c:Str}{r:En}{S:Cs}{sb:Sm}{q:Fn}{f:Tr->Cs->R β}{f':Tr->Cs->RS}{l:List Tr}{b:Bool}{z:Int}{g:Tr->Tr->Cs->R Tr}{fb:Em}{fr:En->Cs->R (List Tr)}{sc:Sm}{k n:Nat}{x:Str}{fs:List (Str×Tr)}
theorem sl {α:Type}{l:List α}(n:Nat)(h:l.length=n)(hn:autoParam (n<=20) zp_1):l.length<=sizeLine:=by rw[h];exact zai hn (by decide)
theorem VM {i:Int}(h:iz l i=some y):bH (.tp l) (.int i) S = .ok y S:=by rw[MV];simp only[Bf,h]
theorem ixl {i:Int}(h:iz l i=some y):bH (.ls l) (.int i) S = .ok y S:=by rw[MV];simp only[Bf,h]
theorem vV0:aa 0 (some t::r) S = .ok t S:=rfl
theorem bV0:(aa 0 (some t::r) S).aE f=f t S:=rfl
theorem sV0:(aa 0 (some t::r) S).bP f'=f' t S:=rfl
theorem kS0:lO 0 (a0::r) t S = .nx (some t::r) S:=rfl
theorem bN0:bO 0 t (a0::r) S = .ok (some t::r) S:=rfl
theorem bV1:(aa 1 (a0::some t::r) S).aE f=f t S:=rfl
theorem sV1:(aa 1 (a0::some t::r) S).bP f'=f' t S:=rfl
theorem kS1:lO 1 (a0::a1::r) t S = .nx (a0::some t::r) S:=rfl
theorem bN1:bO 1 t (a0::a1::r) S = .ok (a0::some t::r) S:=rfl
theorem vV2:aa 2 (a0::a1::some t::r) S = .ok t S:=rfl
theorem bV2:(aa 2 (a0::a1::some t::r) S).aE f=f t S:=rfl
theorem sV2:(aa 2 (a0::a1::some t::r) S).bP f'=f' t S:=rfl
theorem kS2:lO 2 (a0::a1::a2::r) t S = .nx (a0::a1::some t::r) S:=rfl
theorem bN2:bO 2 t (a0::a1::a2::r) S = .ok (a0::a1::some t::r) S:=rfl
theorem vV3:aa 3 (a0::a1::a2::some t::r) S = .ok t S:=rfl
theorem bV3:(aa 3 (a0::a1::a2::some t::r) S).aE f=f t S:=rfl
theorem sV3:(aa 3 (a0::a1::a2::some t::r) S).bP f'=f' t S:=rfl
theorem kS3:lO 3 (a0::a1::a2::a3::r) t S = .nx (a0::a1::a2::some t::r) S:=rfl
theorem bN3:bO 3 t (a0::a1::a2::a3::r) S = .ok (a0::a1::a2::some t::r) S:=rfl
theorem bV4:(aa 4 (a0::a1::a2::a3::some t::r) S).aE f=f t S:=rfl
theorem sV4:(aa 4 (a0::a1::a2::a3::some t::r) S).bP f'=f' t S:=rfl
theorem kS4:lO 4 (a0::a1::a2::a3::a4::r) t S = .nx (a0::a1::a2::a3::some t::r) S:=rfl
theorem bN4:bO 4 t (a0::a1::a2::a3::a4::r) S = .ok (a0::a1::a2::a3::some t::r) S:=rfl
theorem bV5:(aa 5 (a0::a1::a2::a3::a4::some t::r) S).aE f=f t S:=rfl
theorem sV5:(aa 5 (a0::a1::a2::a3::a4::some t::r) S).bP f'=f' t S:=rfl
theorem kS5:lO 5 (a0::a1::a2::a3::a4::a5::r) t S = .nx (a0::a1::a2::a3::a4::some t::r) S:=rfl
theorem bN5:bO 5 t (a0::a1::a2::a3::a4::a5::r) S = .ok (a0::a1::a2::a3::a4::some t::r) S:=rfl
theorem bV6:(aa 6 (a0::a1::a2::a3::a4::a5::some t::r) S).aE f=f t S:=rfl
theorem kS6:lO 6 (a0::a1::a2::a3::a4::a5::a6::r) t S = .nx (a0::a1::a2::a3::a4::a5::some t::r) S:=rfl
theorem bN6:bO 6 t (a0::a1::a2::a3::a4::a5::a6::r) S = .ok (a0::a1::a2::a3::a4::a5::some t::r) S:=rfl
theorem bV7:(aa 7 (a0::a1::a2::a3::a4::a5::a6::some t::r) S).aE f=f t S:=rfl
theorem kS7:lO 7 (a0::a1::a2::a3::a4::a5::a6::a7::r) t S = .nx (a0::a1::a2::a3::a4::a5::a6::some t::r) S:=rfl
theorem bN7:bO 7 t (a0::a1::a2::a3::a4::a5::a6::a7::r) S = .ok (a0::a1::a2::a3::a4::a5::a6::some t::r) S:=rfl
theorem bV8:(aa 8 (a0::a1::a2::a3::a4::a5::a6::a7::some t::r) S).aE f=f t S:=rfl
theorem sV8:(aa 8 (a0::a1::a2::a3::a4::a5::a6::a7::some t::r) S).bP f'=f' t S:=rfl
theorem kS8:lO 8 (a0::a1::a2::a3::a4::a5::a6::a7::a8::r) t S = .nx (a0::a1::a2::a3::a4::a5::a6::a7::some t::r) S:=rfl
theorem bN8:bO 8 t (a0::a1::a2::a3::a4::a5::a6::a7::a8::r) S = .ok (a0::a1::a2::a3::a4::a5::a6::a7::some t::r) S:=rfl
theorem kS9:lO 9 (a0::a1::a2::a3::a4::a5::a6::a7::a8::a9::r) t S = .nx (a0::a1::a2::a3::a4::a5::a6::a7::a8::some t::r) S:=rfl
theorem bN9:bO 9 t (a0::a1::a2::a3::a4::a5::a6::a7::a8::a9::r) S = .ok (a0::a1::a2::a3::a4::a5::a6::a7::a8::some t::r) S:=rfl
theorem amT:lO 10 (a0::a1::a2::a3::a4::a5::a6::a7::a8::a9::oh::r) t S = .nx (a0::a1::a2::a3::a4::a5::a6::a7::a8::a9::some t::r) S:=rfl
theorem amU:bO 10 t (a0::a1::a2::a3::a4::a5::a6::a7::a8::a9::oh::r) S = .ok (a0::a1::a2::a3::a4::a5::a6::a7::a8::a9::some t::r) S:=rfl
theorem amV:(aa 11 (a0::a1::a2::a3::a4::a5::a6::a7::a8::a9::oh::some t::r) S).aE f=f t S:=rfl
theorem amW:lO 11 (a0::a1::a2::a3::a4::a5::a6::a7::a8::a9::oh::wj::r) t S = .nx (a0::a1::a2::a3::a4::a5::a6::a7::a8::a9::oh::some t::r) S:=rfl
theorem amX:bO 11 t (a0::a1::a2::a3::a4::a5::a6::a7::a8::a9::oh::wj::r) S = .ok (a0::a1::a2::a3::a4::a5::a6::a7::a8::a9::oh::some t::r) S:=rfl
theorem amY:lO 12 (a0::a1::a2::a3::a4::a5::a6::a7::a8::a9::oh::wj::GA::r) t S = .nx (a0::a1::a2::a3::a4::a5::a6::a7::a8::a9::oh::wj::some t::r) S:=rfl
theorem amZ:lO 13 (a0::a1::a2::a3::a4::a5::a6::a7::a8::a9::oh::wj::GA::a13::r) t S = .nx (a0::a1::a2::a3::a4::a5::a6::a7::a8::a9::oh::wj::GA::some t::r) S:=rfl
theorem am0:(aa 14 (a0::a1::a2::a3::a4::a5::a6::a7::a8::a9::oh::wj::GA::a13::some t::r) S).aE f=f t S:=rfl
theorem am1:lO 14 (a0::a1::a2::a3::a4::a5::a6::a7::a8::a9::oh::wj::GA::a13::a14::r) t S = .nx (a0::a1::a2::a3::a4::a5::a6::a7::a8::a9::oh::wj::GA::a13::some t::r) S:=rfl
theorem am2:(aa 15 (a0::a1::a2::a3::a4::a5::a6::a7::a8::a9::oh::wj::GA::a13::a14::some t::r) S).aE f=f t S:=rfl
theorem am3:lO 15 (a0::a1::a2::a3::a4::a5::a6::a7::a8::a9::oh::wj::GA::a13::a14::a15::r) t S = .nx (a0::a1::a2::a3::a4::a5::a6::a7::a8::a9::oh::wj::GA::a13::a14::some t::r) S:=rfl
theorem bC:(mC t r S).aE f=f t S:=rfl
theorem sC:(mC t r S).bP f'=f' t S:=rfl
theorem ah5:cT [n0] sb [x0] S=(sb [some x0] S).eO:=rfl
theorem ah6:cT [n0,n1] sb [x0] S=(sb [some x0,none] S).eO:=rfl
theorem ah7:cT [n0,n1,n2] sb [x0] S=(sb [some x0,none,none] S).eO:=rfl
theorem ah8:cT [n0,n1,n2,n3] sb [x0] S=(sb [some x0,none,none,none] S).eO:=rfl
theorem ah9:cT [n0,n1,n2,n3,n4,n5,n6,n7] sb [x0] S=(sb [some x0,none,none,none,none,none,none,none] S).eO:=rfl
theorem abP:cT [n0,n1,n2,n3,n4,n5,n6,n7,n8,n9,n10,n11,n12,n13] sb [x0] S=(sb [some x0,none,none,none,none,none,none,none,none,none,none,none,none,none] S).eO:=rfl
theorem aia:cT [n0,n1] sb [x0,x1] S=(sb [some x0,some x1] S).eO:=rfl
theorem aib:cT [n0,n1,n2] sb [x0,x1] S=(sb [some x0,some x1,none] S).eO:=rfl
theorem aic:cT [n0,n1,n2,n3] sb [x0,x1] S=(sb [some x0,some x1,none,none] S).eO:=rfl
theorem aid:cT [n0,n1,n2,n3,n4] sb [x0,x1] S=(sb [some x0,some x1,none,none,none] S).eO:=rfl
theorem aie:cT [n0,n1,n2,n3,n4,n5] sb [x0,x1] S=(sb [some x0,some x1,none,none,none,none] S).eO:=rfl
theorem aif:cT [n0,n1,n2,n3,n4,n5,n6,n7] sb [x0,x1] S=(sb [some x0,some x1,none,none,none,none,none,none] S).eO:=rfl
theorem aih:cT [n0,n1,n2,n3,n4,n5,n6,n7,n8] sb [x0,x1] S=(sb [some x0,some x1,none,none,none,none,none,none,none] S).eO:=rfl
theorem aii:cT [n0,n1,n2] sb [x0,x1,x2] S=(sb [some x0,some x1,some x2] S).eO:=rfl
theorem aij:cT [n0,n1,n2,n3] sb [x0,x1,x2] S=(sb [some x0,some x1,some x2,none] S).eO:=rfl
theorem aik:cT [n0,n1,n2,n3,n4] sb [x0,x1,x2] S=(sb [some x0,some x1,some x2,none,none] S).eO:=rfl
theorem ail:cT [n0,n1,n2,n3,n4,n5,n6] sb [x0,x1,x2] S=(sb [some x0,some x1,some x2,none,none,none,none] S).eO:=rfl
theorem aim:cT [n0,n1,n2,n3,n4,n5,n6,n7,n8] sb [x0,x1,x2] S=(sb [some x0,some x1,some x2,none,none,none,none,none,none] S).eO:=rfl
theorem ain:cT [n0,n1,n2,n3] sb [x0,x1,x2,x3] S=(sb [some x0,some x1,some x2,some x3] S).eO:=rfl
theorem aio:cT [n0,n1,n2,n3,n4,n5,n6] sb [x0,x1,x2,x3] S=(sb [some x0,some x1,some x2,some x3,none,none,none] S).eO:=rfl
theorem aip:cT [n0,n1,n2,n3,n4,n5,n6,n7] sb [x0,x1,x2,x3] S=(sb [some x0,some x1,some x2,some x3,none,none,none,none] S).eO:=rfl
theorem abQ:cT [n0,n1,n2,n3,n4,n5,n6,n7,n8,n9,n10,n11,n12,n13,n14,n15] sb [x0,x1,x2,x3] S=(sb [some x0,some x1,some x2,some x3,none,none,none,none,none,none,none,none,none,none,none,none] S).eO:=rfl
theorem aiq:cT [n0,n1,n2,n3,n4] sb [x0,x1,x2,x3,x4] S=(sb [some x0,some x1,some x2,some x3,some x4] S).eO:=rfl
theorem air:cT [n0,n1,n2,n3,n4,n5,n6,n7] sb [x0,x1,x2,x3,x4] S=(sb [some x0,some x1,some x2,some x3,some x4,none,none,none] S).eO:=rfl
theorem ais:fnX [n0,n1] sb [x0,x1] S=(sb [some x0,some x1] S).S8:=rfl
theorem ait:fnX [n0,n1,n2,n3] sb [x0,x1] S=(sb [some x0,some x1,none,none] S).S8:=rfl
theorem kF1:kFn 1 q [x0] S=q [x0] S:=rfl
theorem kF2:kFn 2 q [x0,x1] S=q [x0,x1] S:=rfl
theorem kF3:kFn 3 q [x0,x1,x2] S=q [x0,x1,x2] S:=rfl
theorem kF4:kFn 4 q [x0,x1,x2,x3] S=q [x0,x1,x2,x3] S:=rfl
theorem kF5:kFn 5 q [x0,x1,x2,x3,x4] S=q [x0,x1,x2,x3,x4] S:=rfl
theorem kM1:tY 1 q t [] S=q [t] S:=rfl
theorem kM2:tY 2 q t [x0] S=q [t,x0] S:=rfl
theorem kM3:tY 3 q t [x0,x1] S=q [t,x0,x1] S:=rfl
theorem kK3:Gy c 3 q [x0,x1] S=(q [.hd S.length,x0,x1] (S++[.dZ c []])).aE (tZ S.length):=rfl
theorem kK5:Gy c 5 q [x0,x1,x2,x3] S=(q [.hd S.length,x0,x1,x2,x3] (S++[.dZ c []])).aE (tZ S.length):=rfl
theorem kL0:zO [] S = .ok (.ls []) S:=if_pos (sl 0 rfl)
theorem kC0:VF [] S = .ok (.hd S.length) (S++[.bM []])  := if_pos (sl 0 rfl)
theorem kT1:zN [x0] S = .ok (.tp [x0]) S:=if_pos (sl 1 rfl)
theorem kL1:zO [x0] S = .ok (.ls [x0]) S:=if_pos (sl 1 rfl)
theorem kT2:zN [x0,x1] S = .ok (.tp [x0,x1]) S:=if_pos (sl 2 rfl)
theorem kL2:zO [x0,x1] S = .ok (.ls [x0,x1]) S:=if_pos (sl 2 rfl)
theorem kT3:zN [x0,x1,x2] S = .ok (.tp [x0,x1,x2]) S:=if_pos (sl 3 rfl)
theorem kL3:zO [x0,x1,x2] S = .ok (.ls [x0,x1,x2]) S:=if_pos (sl 3 rfl)
theorem kT4:zN [x0,x1,x2,x3] S = .ok (.tp [x0,x1,x2,x3]) S:=if_pos (sl 4 rfl)
theorem kL4:zO [x0,x1,x2,x3] S = .ok (.ls [x0,x1,x2,x3]) S:=if_pos (sl 4 rfl)
theorem kT5:zN [x0,x1,x2,x3,x4] S = .ok (.tp [x0,x1,x2,x3,x4]) S:=if_pos (sl 5 rfl)
theorem kL5:zO [x0,x1,x2,x3,x4] S = .ok (.ls [x0,x1,x2,x3,x4]) S:=if_pos (sl 5 rfl)
theorem kT6:zN [x0,x1,x2,x3,x4,x5] S = .ok (.tp [x0,x1,x2,x3,x4,x5]) S:=if_pos (sl 6 rfl)
theorem kL6:zO [x0,x1,x2,x3,x4,x5] S = .ok (.ls [x0,x1,x2,x3,x4,x5]) S:=if_pos (sl 6 rfl)
theorem kT7:zN [x0,x1,x2,x3,x4,x5,x6] S = .ok (.tp [x0,x1,x2,x3,x4,x5,x6]) S:=if_pos (sl 7 rfl)
theorem kT8:zN [x0,x1,x2,x3,x4,x5,x6,x7] S = .ok (.tp [x0,x1,x2,x3,x4,x5,x6,x7]) S:=if_pos (sl 8 rfl)
theorem kL8:zO [x0,x1,x2,x3,x4,x5,x6,x7] S = .ok (.ls [x0,x1,x2,x3,x4,x5,x6,x7]) S:=if_pos (sl 8 rfl)
theorem iT0:bH (.tp (y::l)) (.int 0) S = .ok y S:=VM (by simp[at0])
theorem iT1:bH (.tp (x0::y::l)) (.int 1) S = .ok y S:=VM (by simp[at1])
theorem iT2:bH (.tp (x0::x1::y::l)) (.int 2) S = .ok y S:=VM (by simp[at2])
theorem iT3:bH (.tp (x0::x1::x2::y::l)) (.int 3) S = .ok y S:=VM (by simp[at3])
theorem iT4:bH (.tp (x0::x1::x2::x3::y::l)) (.int 4) S = .ok y S:=VM (by simp[at4])
theorem iT5:bH (.tp (x0::x1::x2::x3::x4::y::l)) (.int 5) S = .ok y S:=VM (by simp[at5])
theorem iT6:bH (.tp (x0::x1::x2::x3::x4::x5::y::l)) (.int 6) S = .ok y S:=VM (by simp[at6])
theorem iT7:bH (.tp (x0::x1::x2::x3::x4::x5::x6::y::l)) (.int 7) S = .ok y S:=VM (by simp[at7])
theorem iL0:bH (.ls (y::l)) (.int 0) S = .ok y S:=ixl (by simp[at0])
theorem iL1:bH (.ls (x0::y::l)) (.int 1) S = .ok y S:=ixl (by simp[at1])
theorem am4:ai g (aa 0) fb (some t::r) S=(fb (some t::r) S).aE (g t):=rfl
theorem am5:tX g (aa 0) (some t::r) y S=g y t S:=rfl
theorem aV0:af (aa 0) fr (some t::r) S=(fr (some t::r) S).aE (fj t):=rfl
theorem am6:ai g (aa 1) fb (a0::some t::r) S=(fb (a0::some t::r) S).aE (g t):=rfl
theorem am7:tX g (aa 1) (a0::some t::r) y S=g y t S:=rfl
theorem aV1:af (aa 1) fr (a0::some t::r) S=(fr (a0::some t::r) S).aE (fj t):=rfl
theorem am8:ai g (aa 2) fb (a0::a1::some t::r) S=(fb (a0::a1::some t::r) S).aE (g t):=rfl
theorem am9:tX g (aa 2) (a0::a1::some t::r) y S=g y t S:=rfl
theorem aV2:af (aa 2) fr (a0::a1::some t::r) S=(fr (a0::a1::some t::r) S).aE (fj t):=rfl
theorem ana:ai g (aa 3) fb (a0::a1::a2::some t::r) S=(fb (a0::a1::a2::some t::r) S).aE (g t):=rfl
theorem anb:tX g (aa 3) (a0::a1::a2::some t::r) y S=g y t S:=rfl
theorem aV3:af (aa 3) fr (a0::a1::a2::some t::r) S=(fr (a0::a1::a2::some t::r) S).aE (fj t):=rfl
theorem anc:ai g (aa 4) fb (a0::a1::a2::a3::some t::r) S=(fb (a0::a1::a2::a3::some t::r) S).aE (g t):=rfl
theorem ane:tX g (aa 4) (a0::a1::a2::a3::some t::r) y S=g y t S:=rfl
theorem aV4:af (aa 4) fr (a0::a1::a2::a3::some t::r) S=(fr (a0::a1::a2::a3::some t::r) S).aE (fj t):=rfl
theorem anf:ai g (aa 5) fb (a0::a1::a2::a3::a4::some t::r) S=(fb (a0::a1::a2::a3::a4::some t::r) S).aE (g t):=rfl
theorem aV5:af (aa 5) fr (a0::a1::a2::a3::a4::some t::r) S=(fr (a0::a1::a2::a3::a4::some t::r) S).aE (fj t):=rfl
theorem ang:ai g (aa 6) fb (a0::a1::a2::a3::a4::a5::some t::r) S=(fb (a0::a1::a2::a3::a4::a5::some t::r) S).aE (g t):=rfl
theorem anh:tX g (aa 6) (a0::a1::a2::a3::a4::a5::some t::r) y S=g y t S:=rfl
theorem aV6:af (aa 6) fr (a0::a1::a2::a3::a4::a5::some t::r) S=(fr (a0::a1::a2::a3::a4::a5::some t::r) S).aE (fj t):=rfl
theorem ani:ai g (aa 7) fb (a0::a1::a2::a3::a4::a5::a6::some t::r) S=(fb (a0::a1::a2::a3::a4::a5::a6::some t::r) S).aE (g t):=rfl
theorem anj:tX g (aa 7) (a0::a1::a2::a3::a4::a5::a6::some t::r) y S=g y t S:=rfl
theorem aV7:af (aa 7) fr (a0::a1::a2::a3::a4::a5::a6::some t::r) S=(fr (a0::a1::a2::a3::a4::a5::a6::some t::r) S).aE (fj t):=rfl
theorem ank:ai g (aa 8) fb (a0::a1::a2::a3::a4::a5::a6::a7::some t::r) S=(fb (a0::a1::a2::a3::a4::a5::a6::a7::some t::r) S).aE (g t):=rfl
theorem aV8:af (aa 8) fr (a0::a1::a2::a3::a4::a5::a6::a7::some t::r) S=(fr (a0::a1::a2::a3::a4::a5::a6::a7::some t::r) S).aE (fj t):=rfl
theorem anl:ai g (aa 9) fb (a0::a1::a2::a3::a4::a5::a6::a7::a8::some t::r) S=(fb (a0::a1::a2::a3::a4::a5::a6::a7::a8::some t::r) S).aE (g t):=rfl
theorem aV9:af (aa 9) fr (a0::a1::a2::a3::a4::a5::a6::a7::a8::some t::r) S=(fr (a0::a1::a2::a3::a4::a5::a6::a7::a8::some t::r) S).aE (fj t):=rfl
theorem anm:af (aa 10) fr (a0::a1::a2::a3::a4::a5::a6::a7::a8::a9::some t::r) S=(fr (a0::a1::a2::a3::a4::a5::a6::a7::a8::a9::some t::r) S).aE (fj t):=rfl
theorem aiu:ai g (aa 11) fb (a0::a1::a2::a3::a4::a5::a6::a7::a8::a9::oh::some t::r) S=(fb (a0::a1::a2::a3::a4::a5::a6::a7::a8::a9::oh::some t::r) S).aE (g t):=rfl
theorem ano:af (aa 11) fr (a0::a1::a2::a3::a4::a5::a6::a7::a8::a9::oh::some t::r) S=(fr (a0::a1::a2::a3::a4::a5::a6::a7::a8::a9::oh::some t::r) S).aE (fj t):=rfl
theorem aiv:ai g (aa 12) fb (a0::a1::a2::a3::a4::a5::a6::a7::a8::a9::oh::wj::some t::r) S=(fb (a0::a1::a2::a3::a4::a5::a6::a7::a8::a9::oh::wj::some t::r) S).aE (g t):=rfl
theorem anp:af (aa 12) fr (a0::a1::a2::a3::a4::a5::a6::a7::a8::a9::oh::wj::some t::r) S=(fr (a0::a1::a2::a3::a4::a5::a6::a7::a8::a9::oh::wj::some t::r) S).aE (fj t):=rfl
theorem aiw:ai g (aa 13) fb (a0::a1::a2::a3::a4::a5::a6::a7::a8::a9::oh::wj::GA::some t::r) S=(fb (a0::a1::a2::a3::a4::a5::a6::a7::a8::a9::oh::wj::GA::some t::r) S).aE (g t):=rfl
theorem aix:tX g (aa 13) (a0::a1::a2::a3::a4::a5::a6::a7::a8::a9::oh::wj::GA::some t::r) y S=g y t S:=rfl
theorem anq:af (aa 13) fr (a0::a1::a2::a3::a4::a5::a6::a7::a8::a9::oh::wj::GA::some t::r) S=(fr (a0::a1::a2::a3::a4::a5::a6::a7::a8::a9::oh::wj::GA::some t::r) S).aE (fj t):=rfl
theorem sS4:(R.ok t S).bP (lO 4 (a0::a1::a2::a3::a4::r)) = .nx (a0::a1::a2::a3::some t::r) S:=rfl
theorem kBC:tX g (mC y) r t S=g t y S:=rfl
theorem kCN:MO ak r t S = .ok [t] S:=rfl
theorem aC:af (mC t) fr r S=(fr r S).aE (fj t):=rfl
theorem ln7:∀{p0 p1 p2 p3 p4 p5 p6:Str×Tr},([p0,p1,p2,p3,p4,p5,p6]:List (Str×Tr)).length=7:=rfl
theorem anr:∀{p0 p1 p2 p3 p4 p5 p6 p7 p8 p9 p10 p11:Str×Tr},([p0,p1,p2,p3,p4,p5,p6,p7,p8,p9,p10,p11]:List (Str×Tr)).length=12:=rfl
end
section
variable {G:Gx}{k:Nat}{X:Cx}{e o:Expr}{es:List Expr}{f:Em}{fo:Em}{fr:En->Cs->R (List Tr)}{x:Str}{pos jI p eY:Pos}{CX:_}{j n:Nat}{ad:Addr}{fd:FuncData}{ps:List Str}{q:Fn}{st:Stmt}{c m:Str}
theorem ans (i:Nat)(hN:X.N.Nodup)(he:TV G k X e f)(hi:autoParam (X.N[i]? = some x) zp_0)(hx:autoParam (U7 X.env.scope x) zp_10)(hs:autoParam (swapsWith e (some (.Name x jI)) pos.line X.env=pure false) zp_0)(hf:autoParam (X.fn x=true\/X.env.scope.names.lookup x=some .local) zp_4):zu G k X (.Assign [.Name x jI] e pos) (aP i f):=aaP hN hi hx he hs hf
theorem fq (i:Nat)(hN:X.N.Nodup)(hi:autoParam (X.N[i]? = some x) zp_0)(hx:autoParam (U7 X.env.scope x) zp_10)(hf:autoParam (X.fn x=true\/X.env.scope.names.lookup x=some .local) zp_4):L5 G k X (.Name x pos) (bO i):=Sb hN hi hx hf
theorem cJ (F:aN X.prog X.w X.K X.mg X.base CX j ad fd ps (dm G.K G.cl n q))(D:n_ X.K X.mg x st ps ad fd)(ha:we G k X (e::es) fr)(hj:autoParam (j<=k) zp_1)(hx:fB CX X G.E:=by first|exact aA|exact Ej)
  (hg:autoParam (Gl X x) zp_0) (sS:autoParam ((x == ("__debug__" : Str))=false) zp_1) (he:autoParam (dN e=false) zp_0) (hpl:autoParam (cX es=true) zp_0) (xj:autoParam (0<k) zp_2):
  TV G k X (.Call (.Name x p) (e::es) [] pos) (e_ n q fr):=Ss F hj D.m D.F.kp D.b hx ha hg sS he hpl xj
theorem Kp {F T:List Str}{ns:List Nat}{sc:Scope}(st:Stmt)(d:(∀y∈sc.names,y.2 ≠ .cell)/\(∀y∈sc.names,y.2 = .local->sc.names.lookup y.1=some .local)/\(∀y∈sc.names,y.2 = .free->(aj st).names.lookup y.1=some .cell)/\∀x∈F,sc.names.lookup x=some .free)(h1:autoParam (sc.kind = .function) zp_0)(h6:autoParam (ns.map (λj=>X.N[j]?)=F.map some) zp_0)(he:autoParam (∀n,X.env.kindOf n=(aj st).names.lookup n) zp_3):dD X F T ns sc:=⟨h1,d.1,d.2.1,λy hy h=>(he _).trans (d.2.2.1 y hy h),d.2.2.2,h6⟩
end
section
variable {prog:Program}{w:World}{A:Around}{E:Value->Shared->Prop}{s:Shared}{z0:Array Keyed}
end
section
variable {G:Gx}{k:Nat}{w:Wd}{X:Cx}{ah:List (Addr×Obj)}{s:Shared}{σ:St}{H:Hp}
end
end L2
namespace L2
open PySem PySem.Spec PyProof.Rows
section
variable {X:Cx}{o:Expr}{lo hi:Option Expr}{to:TE}{tl th:TO}{p2 pos:Pos}
end
section
variable {G:Gx}{k:Nat}{w:Wd}{X:Cx}{o:Expr}{fo fl fh:Em}{p2 pos:Pos}
end
section
variable {G:Gx}{k:Nat}{w:Wd}{X:Cx}{ah:List (Addr×Obj)}{s:Shared}{σ:St}{H:Hp}
end
end L2
namespace L2
open PySem PySem.Spec PyProof.Rows
section
variable {prog:Program}{w:World}{A:Around}{E:Value->Shared->Prop}{s:Shared}
end
end L2
namespace L2
open PySem PySem.Spec PyProof.Rows
section
variable {X:Cx}{tg a:Expr}{ta:TA}{p2 RJ:Pos}
end
section
variable {G:Gx}{k:Nat}{X:Cx}{a tg:Expr}{fr:En->Cs->R (List Tr)}{p2 RJ:Pos}
end
noncomputable def Ex1 (E:XK):XK:=λcls oa H'=>∃a C od T,oa=some a/\cls = .ref C/\H' a=some (oN a C od T)/\H' T=some (TB T)/\T≠a/\∀T',H' T'=none->T'≠a->E cls oa (bF (bF H' a (oN a C od T')) T' (TB T'))
theorem aiy {P:Program}{w:World}{K:W.Frag}{mg:Str->Option Value}{base:Heap}{N:List Str}{bW:Str}{scope:Scope}{f:Addr}{eZ:Value}{A:Around}{outer:List Env}{s₀:Shared}{H₀:Hp}{E:XK}:
  fB (qa P w) (ic (qa P w) P w K mg base N bW scope f eZ A outer s₀ H₀ E) (Ex1 E):=by
 intro ah σ H s e s' I h;obtain⟨a,_,C,_,H2,rfl,Q8,MG,un,b_,_,_,_,a9,C9,od,T,ea,ec,Vm,VD,Ta,hE⟩:=h;cases ea;cases ec;have I2:aL (ic (qa P w) P w K mg base N bW scope f eZ A outer s₀ H₀ E) ah σ H2 s':=I.AH (ch:=[]) Q8 un b_ MG (λb z=>absurd z (by simp))
 obtain⟨t0,ga⟩:=(show ∃t,s'.heap.get? a=some (iB C od t (.ref T)) from (I2.b_ a _ Vm).1)
 have gT:tD s'.heap T:=(I2.b_ T _ VD).1
 show wpAny (model P w) _ (leaving _ (.ref a)) _ _ s'
 unfold leaving;refine zaa (wU (base:=base) I2.ok.frames I2.yV.j9 rfl ga gT Ta λh1 h' T' k1 tb1 z1 Lf=>?_)
 have RI:T'≠a:=zbQ (zak (zam ga) (by rw[<-z1];exact Lf.new))
 have Z7:H2 T'=none:=I2.b_.fresh (by rw[<-z1];exact Lf.new)
 have I3:aL (ic (qa P w) P w K mg base N bW scope f eZ A outer s₀ H₀ E) ah σ (bF (bF H2 a (oN a C od T')) T' (TB T')) {s' with heap:=h' }:=I2.A5 Vm VD Ta RI k1 tb1 z1 Lf
 exact⟨a,T',C,od,_,rfl,I3.os,I3.g5,I3.base,I3.b_,by rw[au RI.symm];exact ay,ay,RI,hE T' Z7 RI⟩
theorem Jm {K:W.Frag}{cl:Str->Addr}{E:XK}{w:Wd}{n:Nat}{S:Cs}(h:oR ⟨K,cl,E⟩ w n S):oR ⟨K,cl,Ex1 E⟩ w n S:=by
 obtain⟨c,fs,e,k⟩:=h;refine⟨c,fs,e,λw' H' le hr=>?_⟩
 have ql:HR ⟨K,cl,E⟩ w' S H':=HR.swE hr
 obtain⟨d,T0,h1,h2,h3,h4⟩:=ql.A5 e;refine⟨_,_,_,T0,rfl,rfl,h1,h2,h3,λT' hT' Z7=>?_⟩
 obtain⟨w2,l2,r2,dQ⟩:=h4 T' hT' Z7;have q:=k w2 _ (le.trans l2) dQ
 rw[r2] at q;exact q
theorem Na {K:W.Frag}{cl:Str->Addr}{E:XK}{w:Wd}{r:R Tr}{Q:VK}(h:bA RT ⟨K,cl,E⟩ w r Q):bA RT ⟨K,cl,Ex1 E⟩ w r Q:=by
 cases r with
 |ok t S=>exact λw' H' v le hr rv=>h w' H' v le (HR.swE hr) rv
 |ex n S=>exact Jm h
 |aG=>exact h
section
variable {G:Gx}{k j n:Nat}{X:Cx}{f:Addr}{fd:FuncData}{ps:List Str}{q:Fn}{m c:Str}{pos eY:Pos}{e o:Expr}{es:List Expr}{fr:En->Cs->R (List Tr)}{fo:Em}{CX:AM}{pl:Sem Bool}
theorem Nb (hc:rS G.K (G.cl c))(hM:cN G.K (G.cl c) m f)(F:aN X.prog X.w X.K X.mg X.base CX j f fd ps (dm G.K G.cl n q))(hj:j<=k)(hb:d8 X.K fd ps [])(hx:fB CX X (Ex1 G.E))(ho:TV G k X o fo)(ha:we G k X (e::es) fr)
  (pQ:autoParam (dN e=false) zp_0) (hpl:autoParam (cX es=true) zp_0)
  (ht:autoParam (eval (.Call (.Attribute o m eY) (e::es) [] pos) X.env=(do
   let ov <-eval o X.env
   standAt eY.atName
   let (f,first) <-holding [ov] (getMethod ov m pl)
   callWith pos f first (backTo pos (starEach (e::es) X.env)) (backToKw pos (keywordEach [] X.env)))) zp_0) (xj:autoParam (0<k) zp_2):TV G k X (.Call (.Attribute o m eY) (e::es) [] pos) (aF c m n q fo fr):=.mk<|λox =>
 (FP (ho ox) (by rw[ox.K];exact hc) (by rw[ox.K];exact hM) F ((ox.room xj).mono hj) hb .nil hx (ha ox) (dF pQ) (fD hpl) ht).wk λσ H Q h=>by
  obtain⟨w,S,τ,hr,sl,z⟩:=zE h;refine⟨w,S,τ,hr,sl,z.mono λv H1 zp=>?_⟩
  obtain⟨a,dx,fs,e1,e2,e3,w1,S1,dY,bN,DY,z1⟩:=zp;refine⟨a,dx,fs,e1,e2,e3,w1,S1,dY,bN,DY,z1.mono λvs H2 zp2=>?_⟩
  obtain⟨w2,S2,ts,dQ,r2,hn,q2⟩:=zp2;exact⟨w2,S2,ts,HR.swE dQ,r2,hn,Na q2⟩
end
end L2
namespace L2
open PySem
def bp:=jp @vV0<|jp @bV0<|jp @sV0<|jp @kS0<|jp @bN0<|jp @bV1<|jp @sV1<|jp @kS1<|jp @bN1<|jp @vV2<|jp @bV2<|jp @sV2<|jp @kS2<|jp @bN2<|jp @vV3<|jp @bV3<|jp @sV3<|jp @kS3<|jp @bN3<|jp @bV4<|jp @sV4<|jp @kS4<|jp @bN4<|jp @bV5<|jp @sV5<|jp @kS5<|jp @bN5<|jp @bV6<|jp @kS6<|jp @bN6<|jp @bV7<|jp @kS7<|jp @bN7<|jp @bV8<|jp @sV8<|jp @kS8<|jp @bN8<|jp @kS9<|jp @bN9<|jp @amT<|jp @amU<|jp @amV<|jp @amW<|jp @amX<|jp @amY<|jp @amZ<|jp @am0<|jp @am1<|jp @am2<|jp @am3<|jp @bC<|jp @sC<|jp @ah5<|jp @ah6<|jp @ah7<|jp @ah8<|jp @ah9<|jp @abP<|jp @aia<|jp @aib<|jp @aic<|jp @aid<|jp @aie<|jp @aif<|jp @aih<|jp @aii<|jp @aij<|jp @aik<|jp @ail<|jp @aim<|jp @ain<|jp @aio<|jp @aip<|jp @abQ<|jp @aiq<|jp @air<|jp @ais<|jp @ait<|jp @kF1<|jp @kF2<|jp @kF3<|jp @kF4<|jp @kF5<|jp @kM1<|jp @kM2<|jp @kM3<|jp @kK3<|jp @kK5<|jp @kL0<|jp @kC0<|jp @kT1<|jp @kL1<|jp @kT2<|jp @kL2<|jp @kT3<|jp @kL3<|jp @kT4<|jp @kL4<|jp @kT5<|jp @kL5<|jp @kT6<|jp @kL6<|jp @kT7<|jp @kT8<|jp @kL8<|jp @iT0<|jp @iT1<|jp @iT2<|jp @iT3<|jp @iT4<|jp @iT5<|jp @iT6<|jp @iT7<|jp @iL0<|jp @iL1<|jp @am4<|jp @am5<|jp @aV0<|jp @am6<|jp @am7<|jp @aV1<|jp @am8<|jp @am9<|jp @aV2<|jp @ana<|jp @anb<|jp @aV3<|jp @anc<|jp @ane<|jp @aV4<|jp @anf<|jp @aV5<|jp @ang<|jp @anh<|jp @aV6<|jp @ani<|jp @anj<|jp @aV7<|jp @ank<|jp @aV8<|jp @anl<|jp @aV9<|jp @anm<|jp @aiu<|jp @ano<|jp @aiv<|jp @anp<|jp @aiw<|jp @aix<|jp @anq<|jp @sS4<|jp @kBC<|jp @kCN<|jp @aC<|jp @ln7<|@anr
def bx:=jp @Br<|jp @aa0<|jp @Tc<|jp @Ji<|jp @MT<|jp @abw<|jp @Td<|jp @MU<|jp @Te<|jp @ahU<|jp @Tf<|jp @Jl<|jp @Tg<|jp @Th<|jp @Ti<|jp @abx<|jp @aby<|jp @Tj<|jp @ahV<|jp @R.e9<|jp @R.RU<|jp @R.fm<|jp @R.Ba<|jp @aa1<|jp @aa2<|jp @SH<|jp @aa3<|jp @tT<|jp @SJ<|jp @amP<|jp @ahW<|jp @abz<|jp @abA<|jp @abC<|jp @abD<|jp @abE<|jp @abF<|jp @abG<|jp @ahX<|jp @abH<|jp @MV<|jp @abI<|jp @Tn<|jp @abJ<|jp @abK<|jp @zas.{0,0}<|jp @zbK.{0,0}<|jp @zaB.{0}<|jp @zbM.{0}<|jp @zcK.{0}<|jp @zdM.{0}<|jp @zaT.{0}<|jp @zaD.{0}<|jp @List.set_cons_zero.{0}<|jp @zdh.{0}<|jp @zbX.{0}<|jp @zbq.{0}<|jp @zeq.{0}<|jp @Option.isNone_some.{0}<|jp @zex.{0}<|jp @aa4<|jp @zcf<|jp @ahr<|jp @amq<|jp @if_true.{0}<|jp @if_false.{0}<|jp @decide_true<|jp @decide_false<|jp @Bool.not_true<|jp @Bool.not_false<|jp @and_true<|jp @false_and<|jp @and_false<|jp @or_true<|jp @true_or<|jp @or_false<|jp @not_true_eq_false<|jp @not_false_eq_true<|jp @at0<|jp @aZ<|jp @iZ<|jp @and_self<|jp @or_self<|jp @agT<|jp @SD<|jp @Mz<|jp @SE<|jp @SG<|jp @o9<|jp @SK<|jp @To<|jp @gX<|jp @Tp<|jp @tU<|jp @xm<|jp @amQ<|jp @Jg<|jp @MB<|jp @MA<|jp @VA<|jp @abL<|jp @zag.{0}<|jp @zae.{0,0}<|jp @Int.cast_ofNat_Int<|jp @List.isEmpty_cons.{0}<|jp @Int.zero_add<|jp @zG<|jp @Bt<|jp @Bu<|jp @rK<|jp @ahv<|jp @ahw<|jp @vIf<|jp @ahx<|jp @amw<|jp @ahy<|jp @ahz<|jp @amx<|jp @ahA<|jp @abg<|jp @amz<|jp @ahC<|jp @MM<|jp @SO<|jp @ahD<|jp @amA<|jp @vB<|jp @abh<|jp @amB<|jp @vUn<|jp @vC<|jp @ahE<|jp @MN<|jp @SQ<|jp @ahF<|jp @amC<|jp @amD<|jp @amE<|jp @ahG<|jp @vFn<|jp @SR<|jp @ahH<|jp @MP<|jp @ahI<|jp @amF<|jp @abj<|jp @abk<|jp @amG<|jp @abl<|jp @amH<|jp @abn<|jp @abo<|jp @amI<|jp @ahK<|jp @ahL<|jp @vOr<|jp @SS<|jp @ahM<|jp @SV<|jp @ahN<|jp @abp<|jp @amK<|jp @abq<|jp @amL<|jp @abr<|jp @amM<|jp @vIt<|jp @ahR<|jp @SW<|jp @abt<|jp @amN<|jp @El<|jp @Jk<|jp @SX<|jp @SY<|jp @S9<|jp @S_<|jp @abu<|jp @MS<|jp @abv<|jp @zP<|jp @gA.eq_1<|jp @Jc.eq_1<|jp @Jc.eq_2<|jp @o5.eq_1<|jp @o5.eq_2<|jp @Je.eq_1<|jp @Je.eq_2<|jp @o4.eq_1<|jp @o4.eq_2<|jp @isN.eq_1<|jp @isN.eq_2<|jp @lR.eq_1<|jp @lR.eq_2<|jp @jo.eq_1<|jp @jo.eq_2<|jp @jo.eq_3<|jp @Bf.eq_1<|jp @Bf.eq_2<|jp @Bf.eq_3<|jp @Bf.eq_4<|jp @Bf.eq_5<|jp @Bf.eq_6<|jp @Gb.eq_1<|jp @Gb.eq_2<|jp @Gb.eq_3<|jp @Gb.eq_4<|jp @Vu.eq_1<|jp @Vu.eq_2<|jp @Vu.eq_3<|jp @Qm.eq_1<|jp @Qm.eq_2<|jp @Be.eq_1<|jp @Be.eq_2<|jp @Be.eq_3<|jp @cL.eq_1<|jp @tP.eq_1<|jp @iC.eq_1<|jp @Ja.eq_1<|jp @ckD.eq_1<|jp @Ko.eq_1<|jp @Ko.eq_2<|jp @Ko.eq_3<|jp @Ko.eq_4<|jp @Ko.eq_5<|jp @Ko.eq_6<|jp @Ko.eq_7<|jp @Ko.eq_8<|jp @jC.eq_1<|jp @zM.eq_1<|jp @zM.eq_2<|jp @xq.eq_1<|jp @Bv.eq_1<|jp @Bv.eq_2<|jp @gT2.eq_1<|@gT2.eq_2
end L2
namespace My
open PySem L2
theorem zU {α:Type}{a:α}{l:List α}:(a::l).length=l.length+1:=by first|exact zaB|exact zaB _|simp
theorem Es {α:Type}:([]:List α).length=0:=by first|exact zbM|exact zbM _|simp
theorem rO {α β:Type}{f:α -> β}{a:α}{l:List α}:List.map f (a::l)=f a::List.map f l:=by first|exact zas|exact zas _|simp
theorem zV {α β:Type}{f:α -> β}:List.map f []=[]:=by first|exact zbK|exact zbK _|simp
theorem GB {α:Type}{a:α}{l m:List α}:(a::l)++m=a::(l++m):=by first|exact zcK|exact zcK _|simp
theorem Dm {α:Type}{l:List α}:[]++l=l:=by first|exact zdM|exact zdM _|simp
noncomputable def eV (i:Nat):Stmt:=PySem.Challenge.pw_inningsbook_k51_whole_put_right.main.body.getD i (.Pass ⟨0,0,0,0⟩)
noncomputable abbrev VN:Stmt:=eV 40
noncomputable abbrev VO:Stmt:=eV 41
noncomputable abbrev VP:Stmt:=eV 42
noncomputable abbrev VQ:Stmt:=eV 43
noncomputable abbrev GC:Stmt:=eV 44
noncomputable abbrev Nc:Stmt:=eV 32
noncomputable abbrev Nd:Stmt:=aM (eV 35) 0
noncomputable abbrev VR:Stmt:=aM (eV 35) 1
noncomputable abbrev VS:Stmt:=aM (eV 35) 2
noncomputable abbrev Nf:Stmt:=aM (eV 35) 3
noncomputable abbrev VT:Stmt:=aM (eV 35) 4
noncomputable abbrev VU:Stmt:=aM (eV 35) 5
noncomputable abbrev VW:Stmt:=aM (eV 35) 24
noncomputable abbrev VX:Stmt:=aM (eV 35) 20
noncomputable abbrev Ng:Stmt:=aM (eV 35) 23
noncomputable abbrev VY:Stmt:=aM (eV 35) 21
noncomputable abbrev VZ:Stmt:=aM (eV 35) 6
noncomputable abbrev V0:Stmt:=aM (eV 35) 22
noncomputable abbrev V1:Stmt:=eV 45
noncomputable abbrev Nh:Stmt:=eV 46
noncomputable abbrev V2:Stmt:=aM (eV 35) 8
noncomputable abbrev V3:Stmt:=aM (eV 35) 9
noncomputable abbrev V4:Stmt:=aM (eV 23) 1
noncomputable abbrev V5:Stmt:=eV 28
noncomputable abbrev V6:Stmt:=aM (eV 35) 10
noncomputable abbrev V7:Stmt:=aM (eV 35) 7
noncomputable abbrev V8:Stmt:=aM (eV 35) 11
noncomputable abbrev V9:Stmt:=aM (eV 23) 2
noncomputable abbrev V_:Stmt:=eV 17
noncomputable abbrev Wa:Stmt:=eV 18
noncomputable abbrev Wb:Stmt:=eV 19
noncomputable abbrev Wc:Stmt:=eV 25
noncomputable abbrev We:Stmt:=eV 26
noncomputable abbrev Wf:Stmt:=eV 27
noncomputable abbrev Wg:Stmt:=eV 29
noncomputable abbrev Wh:Stmt:=aM (eV 35) 12
noncomputable abbrev aiz:Stmt:=aM (eV 23) 0
noncomputable abbrev Wi:Stmt:=aM (eV 35) 13
noncomputable abbrev Wj:Stmt:=eV 20
noncomputable abbrev Wk:Stmt:=eV 21
noncomputable abbrev Wl:Stmt:=aM (eV 23) 8
noncomputable abbrev Wm:Stmt:=aM (eV 23) 4
noncomputable abbrev Wn:Stmt:=aM (eV 23) 5
noncomputable abbrev Wo:Stmt:=aM (eV 23) 9
noncomputable abbrev Wq:Stmt:=aM (eV 23) 10
noncomputable abbrev Wr:Stmt:=aM (eV 23) 11
noncomputable abbrev Ws:Stmt:=aM (eV 35) 14
noncomputable abbrev Wt:Stmt:=aM (eV 23) 6
noncomputable abbrev Wu:Stmt:=aM (eV 23) 7
noncomputable abbrev Ni:Stmt:=eV 36
noncomputable abbrev Nj:Stmt:=eV 24
noncomputable abbrev Wv:Stmt:=aM (eV 23) 12
noncomputable abbrev Nk:Stmt:=aM (eV 35) 15
noncomputable abbrev Ww:Stmt:=aM (eV 35) 16
noncomputable abbrev Wx:Stmt:=aM (eV 35) 17
noncomputable abbrev Nl:Stmt:=aM (eV 23) 3
noncomputable abbrev Wy:Stmt:=aM (eV 35) 18
noncomputable abbrev Wz:Stmt:=aM (eV 35) 19
noncomputable abbrev aiA:Stmt:=aM (eV 38) 1
noncomputable abbrev WA:Stmt:=eV 47
noncomputable abbrev WB:Stmt:=eV 48
noncomputable abbrev abR:Stmt:=aM (eV 38) 0
noncomputable abbrev WC:Stmt:=eV 51
noncomputable abbrev aiB:Stmt:=aM (eV 38) 4
noncomputable abbrev aiC:Stmt:=aM (eV 38) 5
noncomputable abbrev aiD:Stmt:=aM (eV 38) 7
noncomputable abbrev aiE:Stmt:=aM (eV 38) 6
noncomputable abbrev aiF:Stmt:=aM (eV 38) 8
noncomputable abbrev WD:Stmt:=eV 53
noncomputable abbrev WE:Stmt:=eV 50
noncomputable abbrev WG:Stmt:=eV 52
noncomputable abbrev aiG:Stmt:=aM (eV 38) 2
noncomputable abbrev WH:Stmt:=aM (eV 35) 25
noncomputable abbrev WI:Stmt:=eV 49
noncomputable abbrev aiH:Stmt:=aM (eV 38) 3
noncomputable abbrev WJ:Stmt:=eV 54
noncomputable abbrev dH:Stmt:=aM (eV 2) 0
structure AdF where
 BA:Addr
 BB:Addr
 BC:Addr
 BD:Addr
 BE:Addr
 BF:Addr
 t6:Addr
 xB:Addr
 xC:Addr
 xD:Addr
 xE:Addr
 xF:Addr
 xG:Addr
 xH:Addr
 xJ:Addr
 xK:Addr
 xM:Addr
 xN:Addr
 BG:Addr
 BH:Addr
 xO:Addr
 xP:Addr
 xQ:Addr
 BI:Addr
 xR:Addr
 xS:Addr
 xT:Addr
 xU:Addr
 BJ:Addr
 BK:Addr
 BL:Addr
 BN:Addr
 BO:Addr
 BP:Addr
 BQ:Addr
 xV:Addr
 Et:Addr
 xW:Addr
 BR:Addr
 BS:Addr
 xX:Addr
 xY:Addr
 xZ:Addr
 x_:Addr
 ya:Addr
 yb:Addr
 yc:Addr
 yd:Addr
 ye:Addr
 BU:Addr
 BV:Addr
 yf:Addr
 yg:Addr
 yh:Addr
 yi:Addr
 yj:Addr
 yk:Addr
 ym:Addr
 Jo:Addr
 yo:Addr
 BW:Addr
 Eu:Addr
 BX:Addr
 Jp:Addr
 Jq:Addr
 Jr:Addr
 Js:Addr
 Jt:Addr
 BY:Addr
 BZ:Addr
 B8:Addr
 Ju:Addr
 yq:Addr
 B9:Addr
 Jv:Addr
 B_:Addr
 t7:FuncData
 t8:FuncData
 t9:FuncData
 t_:FuncData
 ua:FuncData
 uc:FuncData
 ud:FuncData
 ue:FuncData
 uf:FuncData
 ug:FuncData
 uh:FuncData
 um:FuncData
 uo:FuncData
 uq:FuncData
 ur:FuncData
 uv:FuncData
 uw:FuncData
 ux:FuncData
 uy:FuncData
 uz:FuncData
 uA:FuncData
 uB:FuncData
 uC:FuncData
 uD:FuncData
 uE:FuncData
 uF:FuncData
 uG:FuncData
 uH:FuncData
 uI:FuncData
 uJ:FuncData
 uK:FuncData
 uL:FuncData
 uM:FuncData
 uN:FuncData
 uO:FuncData
 uP:FuncData
 Ca:FuncData
 uQ:FuncData
 uR:FuncData
 uS:FuncData
 uU:FuncData
 uV:FuncData
 uW:FuncData
 uX:FuncData
 uY:FuncData
 uZ:FuncData
 u5:FuncData
 u6:FuncData
 u9:FuncData
 u_:FuncData
 vc:FuncData
 vd:FuncData
 ve:FuncData
 vf:FuncData
 vg:FuncData
 vh:FuncData
 vj:FuncData
 vm:FuncData
 Cb:FuncData
 qw:FuncData
 vn:FuncData
 Cc:FuncData
 vo:FuncData
 Cd:FuncData
 Cf:FuncData
 Cg:FuncData
 Ci:FuncData
 Cj:FuncData
 vp:FuncData
 vq:FuncData
 vt:FuncData
 Ck:FuncData
 vz:FuncData
 vA:FuncData
 Cm:FuncData
 nR:FuncData
 aX:Addr
 bw:Addr
 eB:Addr
 jt:Tok
 zW:Tok
 iJ:Tok
 iK:Tok
 mZ:Tok
 iM:Tok
 ju:Tok
 kU:Tok
 m6:Tok
 GD:Tok
 kW:Tok
 iN:Tok
 jv:Tok
 m8:Tok
structure Ad extends AdF where
 bz:Addr
 bK:Addr
 bB:Addr
 eE:FuncData
 iR:Tok
noncomputable def aD (a:Ad):Str->Addr:=λx=>if x="Innings" then a.aX else if x="Match" then a.bw else if x="Book" then a.eB else if x="NotLet" then a.bK else 0
noncomputable def er (a:Ad):List (Str×Addr×Addr):=[("NotLet",a.bK,a.bB)]
structure TxF (K:W.Frag) (mg:Str->Option Value) (a:AdF):Prop where
 aiI:mg "any"=none
 abS:mg "bool"=none
 abT:mg "dict"=none
 mz:mg "enumerate"=none
 aiJ:mg "int"=none
 iO:mg "isinstance"=none
 iF:mg "len"=none
 vD:mg "list"=none
 aiK:mg "min"=none
 pB:mg "range"=none
 aiL:mg "str"=none
 aiM:mg "sum"=none
 Tw:mg "tuple"=none
 Cn:mg "FOLLOW_AT"=some (.int 7 a.jt)
 abU:mg "FOUR"=some (.int 4 a.zW)
 zX:mg "INNINGS_AT"=some (.int 6 a.iJ)
 zY:mg "IS_CROSSED"=some (.int 6 a.iK)
 Jw:mg "IS_FAIR"=some (.int 4 a.mZ)
 pC:mg "LONG_MATCH"=some (.int 4 a.iM)
 Co:mg "NOBALL_AT"=some (.int 4 a.ju)
 Ew:mg "OVERS_AT"=some (.int 1 a.kU)
 Jx:mg "OVER_AT"=some (.int 0 a.m6)
 aiN:mg "SIX"=some (.int 6 a.GD)
 Ex:mg "SPELL_AT"=some (.int 2 a.kW)
 pD:mg "TEAM_COUNT"=some (.int 2 a.iN)
 Cp:mg "TEAM_RUNS"=some (.int 0 a.jv)
 Jy:mg "WIDE_AT"=some (.int 3 a.m8)
 WK:n_ K mg "_law_folded" VN ["_law_script","_law_most"] a.BA a.t7
 WL:n_ K mg "_law_digit" VO ["_law_cell","_law_at","_law_many"] a.BB a.t8
 vE:n_ K mg "_law_draw" VP ["_law_script","_law_k","_law_many"] a.BC a.t9
 WM:n_ K mg "_law_rules" VQ ["_law_script"] a.BD a.t_
 WN:n_ K mg "_law_teams" GC ["_law_script","_law_side"] a.BE a.ua
 Nm:n_ K mg "names_told" Nc ["teams","word"] a.BF a.uc
 yr:iI K a.bw "__init__" "Match.__init__" Nd ["self","rules","teams"] a.t6 a.ud
 jw:iI K a.bw "going" "Match.going" VR ["self"] a.xB a.ue
 Cq:iI K a.bw "most_innings" "Match.most_innings" VS ["self"] a.xC a.uf
 Nn:iI K a.bw "total_of" "Match.total_of" Nf ["self","side"] a.xD a.ug
 yt:iI K a.bw "lead_of" "Match.lead_of" VT ["self","side"] a.xE a.uh
 Cr:iI K a.bw "is_done" "Match.is_done" VU ["self"] a.xF a.um
 GF:iI K a.bw "result" "Match.result" VW ["self"] a.xG a.uo
 GG:iI K a.bw "state" "Match.state" VX ["self"] a.xH a.uq
 GH:iI K a.bw "players" "Match.players" Ng ["self"] a.xJ a.ur
 GI:iI K a.bw "innings" "Match.innings" VY ["self"] a.xK a.uv
 GJ:iI K a.bw "next_side" "Match.next_side" VZ ["self"] a.xM a.uw
 GK:iI K a.bw "turn" "Match.turn" V0 ["self"] a.xN a.ux
 Np:n_ K mg "_law_ball" V1 ["_law_script","_law_k","_law_state"] a.BG a.uy
 WO:n_ K mg "_law_entry" Nh ["_law_script","_law_k","_law_teams_here","_law_match"] a.BH a.uz
 GL:iI K a.bw "side_to_start" "Match.side_to_start" V2 ["self","team"] a.xO a.uA
 Nq:iI K a.bw "start_refusal" "Match.start_refusal" V3 ["self","entry"] a.xP a.uB
 qW:iI K a.aX "stands" "Innings.stands" V4 ["self","name"] a.xQ a.uC
 WQ:n_ K mg "swap_refusal_within" V5 ["innings","old"] a.BI a.uD
 Nr:iI K a.bw "swap_refusal" "Match.swap_refusal" V6 ["self","old","new"] a.xR a.uE
 Nt:iI K a.bw "may_follow" "Match.may_follow" V7 ["self"] a.xS a.uF
 Nu:iI K a.bw "follow_refusal" "Match.follow_refusal" V8 ["self"] a.xT a.uG
 Ct:iI K a.aX "has_gap" "Innings.has_gap" V9 ["self"] a.xU a.uH
 WR:n_ K mg "rope_goes" V_ ["kind","runs"] a.BJ a.uI
 WS:n_ K mg "way_goes" Wa ["kind","runs","rope","way"] a.BK a.uJ
 WT:n_ K mg "ball_fault" Wb ["entry"] a.BL a.uK
 WU:n_ K mg "ball_refusal" Wc ["innings","entry"] a.BN a.uL
 WV:n_ K mg "in_refusal" We ["innings","batting","name"] a.BO a.uM
 WW:n_ K mg "bowl_refusal" Wf ["innings","fielding","spell","name"] a.BP a.uN
 WX:n_ K mg "refusal_within" Wg ["innings","rules","batting","fielding","entry"] a.BQ a.uO
 Nv:iI K a.bw "refusal" "Match.refusal" Wh ["self","entry"] a.xV a.uP
 aiO:iI K a.aX "__init__" "Innings.__init__" aiz ["self","side","facing","other","bowler"] a.Et a.Ca
 Nx:iI K a.bw "begin" "Match.begin" Wi ["self","entry"] a.xW a.uQ
 WY:n_ K mg "runs_by" Wj ["rules","kind","runs"] a.BR a.uR
 WZ:n_ K mg "ball_sums" Wk ["rules","entry"] a.BS a.uS
 Ny:iI K a.aX "out_by" "Innings.out_by" Wl ["self","entry"] a.xX a.uU
 Cu:iI K a.aX "change_ends" "Innings.change_ends" Wm ["self"] a.xY a.uV
 GN:iI K a.aX "leave" "Innings.leave" Wn ["self","name"] a.xZ a.uW
 Nz:iI K a.aX "fall" "Innings.fall" Wo ["self","name","end"] a.x_ a.uX
 NC:iI K a.aX "count_fair" "Innings.count_fair" Wq ["self","over"] a.ya a.uY
 ND:iI K a.aX "play" "Innings.play" Wr ["self","rules","entry"] a.yb a.uZ
 NF:iI K a.bw "play_ball" "Match.play_ball" Ws ["self","entry"] a.yc a.u5
 NG:iI K a.aX "come_in" "Innings.come_in" Wt ["self","name"] a.yd a.u6
 NH:iI K a.aX "bowl_next" "Innings.bowl_next" Wu ["self","name"] a.ye a.u9
 W0:n_ K mg "swapped" Ni ["players","old","new"] a.BU a.u_
 W2:n_ K mg "renamed" Nj ["told","old","new"] a.BV a.vc
 NI:iI K a.aX "rename" "Innings.rename" Wv ["self","old","new"] a.yf a.vd
 NJ:iI K a.bw "swap_player" "Match.swap_player" Nk ["self","old","new"] a.yg a.ve
 NK:iI K a.bw "close" "Match.close" Ww ["self"] a.yh a.vf
 NL:iI K a.bw "do" "Match.do" Wx ["self","entry"] a.yi a.vg
 NO:iI K a.aX "has_left" "Innings.has_left" Nl ["self","players"] a.yj a.vh
 NP:iI K a.bw "ending_due" "Match.ending_due" Wy ["self","going"] a.yk a.vj
 yu:iI K a.bw "tell" "Match.tell" Wz ["self","entry"] a.ym a.vm
 Tz:iI K a.eB "tell" "Book.tell" aiA ["self","entry"] a.Jo a.Cb
 yv:n_ K mg "_law_lets" WA ["_law_match","_law_entry_here"] a.yo a.qw
 W3:n_ K mg "_law_entries" WB ["_law_script","_law_rules_here","_law_teams_here","_law_many"] a.BW a.vn
 aiP:iI K a.eB "__init__" "Book.__init__" abR ["self","rules","teams"] a.Eu a.Cc
 NQ:n_ K mg "_law_odd" WC ["_law_script","_law_k","_law_teams_here","_law_entries_here"] a.BX a.vo
 NR:iI K a.eB "need_number" "Book.need_number" aiB ["self","number","count"] a.Jp a.Cd
 NS:iI K a.eB "retell" "Book.retell" aiC ["self","entries"] a.Jq a.Cf
 abV:iI K a.eB "put_in" "Book.put_in" aiD ["self","number","entry"] a.Jr a.Cg
 abW:iI K a.eB "put_right" "Book.put_right" aiE ["self","number","entry"] a.Js a.Ci
 abX:iI K a.eB "take_out" "Book.take_out" aiF ["self","number"] a.Jt a.Cj
 W4:n_ K mg "_law_turned" WD ["_law_cells","_law_k","_law_book","_law_teams_here","_law_kept"] a.BY a.vp
 W5:n_ K mg "_law_fresh" WE ["_law_rules_here","_law_teams_here","_law_entries_here"] a.BZ a.vq
 W6:n_ K mg "_law_pair" WG ["_law_found"] a.B8 a.vt
 abY:iI K a.eB "entries" "Book.entries" aiG ["self"] a.Ju a.Ck
 NT:iI K a.bw "log" "Match.log" WH ["self"] a.yq a.vz
 W7:n_ K mg "_law_seen" WI ["_law_match"] a.B9 a.vA
 abZ:iI K a.eB "match" "Book.match" aiH ["self"] a.Jv a.Cm
 NU:n_ K mg "law" WJ ["_law_script"] a.B_ a.nR
 cO:Mx K mg "Innings" a.aX a.Et
 aiQ:bV K a.aX "side"
 aiR:bV K a.aX "facing"
 aiS:bV K a.aX "other"
 aiT:bV K a.aX "bowler"
 aiU:bV K a.aX "ahead"
 aiV:bV K a.aX "total"
 aiW:bV K a.aX "wickets"
 aiX:bV K a.aX "overs"
 aiY:bV K a.aX "balls"
 aiZ:bV K a.aX "ending"
 ab0:bV K a.aX "outs"
 ab1:bV K a.aX "spells"
 gY:Mx K mg "Match" a.bw a.t6
 ai0:bV K a.bw "rules"
 ai1:bV K a.bw "sides"
 ai2:bV K a.bw "known"
 ai3:bV K a.bw "played"
 ai4:bV K a.bw "followed"
 ai5:bV K a.bw "closed"
 ai6:bV K a.bw "balls_told"
 nU:Mx K mg "Book" a.eB a.Eu
 ai7:bV K a.eB "rules"
 ai8:bV K a.eB "teams"
 ai9:bV K a.eB "kept"
 aja:bV K a.eB "current"
structure Txt (K:W.Frag) (mg:Str->Option Value) (a:Ad):Prop extends TxF K mg a.toAdF where
 Er:abd K mg a.bz (er a)
 eX:EC K mg a.bz "NotLet" a.bK a.bB dH a.eE ["self","words","rule","number"]
 yw:d8 K a.eE ["self","words","rule","number"] [.int 0 a.iR]
 i8:W.findIn K (.ref a.bK) "rule"=some none
 jT:W.findIn K (.ref a.bK) "number"=some none
 Jz:a.bK≠a.bz
theorem fG {K:W.Frag}{cl:Str->Addr}{E:XK}{x f:Str}{C:Addr}(e:cl x=C)(h:rS K C)(n:bV K C f):dP ⟨K,cl,E⟩ [x] f:=λc hc=>by
 cases zau.mp hc
 subst e;exact⟨h,n⟩
theorem eW {N P:List Str}{sc:Scope}(h:autoParam (sc.kind = .function/\sc.isCoroutine=false/\sc.isGenerator=false/\N.take P.length=P) zp_9)(d:N.Nodup/\(∀x∈P,sc.names.lookup x=some .local\/sc.names.lookup x=some .cell)/\∀y∈sc.names,y.2 ≠ .free:=by decide +kernel):aq N P sc:=⟨h.1,h.2.1,h.2.2.1,d.1,h.2.2.2,d.2.1,d.2.2⟩
section
variable {P:Program}{w:World}{K:W.Frag}{mg:Str->Option Value}{base:Heap}{a:Ad}{E:XK}
theorem aY:aD a "Innings"=a.aX:=by unfold aD;rw[if_pos rfl]
theorem bq (T:Txt K mg a):rS K (aD a "Innings"):=by rw[aY];exact T.cO.c
theorem Ey (T:Txt K mg a):Mk K (aD a "Innings") a.Et:=by rw[aY];exact T.cO.k
theorem Cv (T:Txt K mg a):mg "Innings"=some (.ref (aD a "Innings")):=by rw[aY];exact T.cO.m
theorem kX (T:Txt K mg a):dP ⟨K,aD a,E⟩ ["Innings"] "side" := fG aY T.cO.c T.aiQ
theorem iu (T:Txt K mg a):dP ⟨K,aD a,E⟩ ["Innings"] "facing" := fG aY T.cO.c T.aiR
theorem mD (T:Txt K mg a):dP ⟨K,aD a,E⟩ ["Innings"] "other" := fG aY T.cO.c T.aiS
theorem kY (T:Txt K mg a):dP ⟨K,aD a,E⟩ ["Innings"] "bowler" := fG aY T.cO.c T.aiT
theorem vF (T:Txt K mg a):dP ⟨K,aD a,E⟩ ["Innings"] "ahead" := fG aY T.cO.c T.aiU
theorem vG (T:Txt K mg a):dP ⟨K,aD a,E⟩ ["Innings"] "total" := fG aY T.cO.c T.aiV
theorem zZ (T:Txt K mg a):dP ⟨K,aD a,E⟩ ["Innings"] "wickets" := fG aY T.cO.c T.aiW
theorem qx (T:Txt K mg a):dP ⟨K,aD a,E⟩ ["Innings"] "overs" := fG aY T.cO.c T.aiX
theorem nV (T:Txt K mg a):dP ⟨K,aD a,E⟩ ["Innings"] "balls" := fG aY T.cO.c T.aiY
theorem qy (T:Txt K mg a):dP ⟨K,aD a,E⟩ ["Innings"] "ending" := fG aY T.cO.c T.aiZ
theorem m9 (T:Txt K mg a):dP ⟨K,aD a,E⟩ ["Innings"] "outs" := fG aY T.cO.c T.ab0
theorem pF (T:Txt K mg a):dP ⟨K,aD a,E⟩ ["Innings"] "spells" := fG aY T.cO.c T.ab1
theorem a_:aD a "Match"=a.bw:=by unfold aD;rw[if_neg (by decide)];rw[if_pos rfl]
theorem az (T:Txt K mg a):rS K (aD a "Match"):=by rw[a_];exact T.gY.c
theorem mE (T:Txt K mg a):Mk K (aD a "Match") a.t6:=by rw[a_];exact T.gY.k
theorem jU (T:Txt K mg a):mg "Match"=some (.ref (aD a "Match")):=by rw[a_];exact T.gY.m
theorem qz (T:Txt K mg a):dP ⟨K,aD a,E⟩ ["Match"] "rules" := fG a_ T.gY.c T.ai0
theorem gR (T:Txt K mg a):dP ⟨K,aD a,E⟩ ["Match"] "sides" := fG a_ T.gY.c T.ai1
theorem Ez (T:Txt K mg a):dP ⟨K,aD a,E⟩ ["Match"] "known" := fG a_ T.gY.c T.ai2
theorem i9 (T:Txt K mg a):dP ⟨K,aD a,E⟩ ["Match"] "played" := fG a_ T.gY.c T.ai3
theorem z6 (T:Txt K mg a):dP ⟨K,aD a,E⟩ ["Match"] "followed" := fG a_ T.gY.c T.ai4
theorem z7 (T:Txt K mg a):dP ⟨K,aD a,E⟩ ["Match"] "closed" := fG a_ T.gY.c T.ai5
theorem EA (T:Txt K mg a):dP ⟨K,aD a,E⟩ ["Match"] "balls_told" := fG a_ T.gY.c T.ai6
theorem eF:aD a "Book"=a.eB:=by unfold aD;rw[if_neg (by decide)];rw[if_neg (by decide)];rw[if_pos rfl]
theorem dX (T:Txt K mg a):rS K (aD a "Book"):=by rw[eF];exact T.nU.c
theorem TH (T:Txt K mg a):Mk K (aD a "Book") a.Eu:=by rw[eF];exact T.nU.k
theorem NV (T:Txt K mg a):mg "Book"=some (.ref (aD a "Book")):=by rw[eF];exact T.nU.m
theorem EE (T:Txt K mg a):dP ⟨K,aD a,E⟩ ["Book"] "rules" := fG eF T.nU.c T.ai7
theorem EF (T:Txt K mg a):dP ⟨K,aD a,E⟩ ["Book"] "teams" := fG eF T.nU.c T.ai8
theorem mG (T:Txt K mg a):dP ⟨K,aD a,E⟩ ["Book"] "kept" := fG eF T.nU.c T.ai9
theorem EG (T:Txt K mg a):dP ⟨K,aD a,E⟩ ["Book"] "current" := fG eF T.nU.c T.aja
theorem jV:aD a "NotLet"=a.bK:=by unfold aD;rw[if_neg (by decide)];rw[if_neg (by decide)];rw[if_neg (by decide)];rw[if_pos rfl]
theorem qA (T:Txt K mg a):oK K (aD a "NotLet") a.bB (.ref a.bz::rT):=by rw[jV];exact T.eX.M
theorem EH (T:Txt K mg a):mg "NotLet"=some (.ref (aD a "NotLet")):=by rw[jV];exact T.eX.m
theorem nW:aq ["self","words","rule","number"] ["self","words","rule","number"] (aj dH):=eW
theorem nX (T:Txt K mg a):aN P w K mg base dJ 1 a.bB a.eE ["self","words","rule","number"] (VB (aD a "NotLet") 3 (gE2 "rule" "number")):=by
 rw[jV];refine T.eX.ok nW (λvs H Q E h=>?_) (λq eZ A outer s H vs Q E hr h=>?_)
 ·obtain⟨b,xs,rfl,hl,_⟩:=h
  simp[hl]
 ·obtain⟨b,xs,rfl,hl,ha,k⟩:=h
  match xs,hl,k with
  |[x,y,z],_,k =>
   refine⟨_,sN (FF (Lw T.Er.EB rfl T.Er.m (oA (pv 0) (oA (pv 1) DE)))) (sN (Rw (pv 0) (pv 2)) (FE (Rx (pv 0) (pv 3)))),?_⟩
   refine⟨_,rfl,_,rfl,b,_,_,_,none,x,rfl,ha,T.eX.M,?_⟩
   refine⟨_,rfl,_,rfl,b,_,_,_,rfl,ha,T.eX.M,T.i8,λd nd=>?_⟩
   have nda:d≠b:=(fu ha nd).symm
   refine⟨_,rfl,_,rfl,b,_,_,_,d,[(("rule" : Str),y)],rfl,ay,by rw[au nda,ay],(show 1<1000 by decide),T.eX.M,T.jT,?_⟩
   have e1:gr "number" z [(("rule" : Str),y)]=[(("rule" : Str),y),("number",z)]:=by
    show (if ("rule" : Str)="number" then _ else _)=_
    rw[if_neg (by decide +kernel)]
    rfl
   rw[e1];refine k d _ nd (by rw[au nda.symm,ay]) ay λb o eb nb=>?_
   have nbd:b≠d:=fu eb nd
   rw[au nbd,au nb,au nbd];exact eb
theorem vH (T:Txt K mg a):mg "NotLet"=some (.ref a.bK):=(T.Er.all _ (zaV (i:=0) (l:=er a) rfl)).1
theorem z8 (T:Txt K mg a):MI ⟨K,aD a,E⟩ ["NotLet"] "rule" := by
 intro c hc;simp only[zan,zaL,or_false] at hc;rcases hc with rfl
 ·exact⟨⟨_,_,qA T⟩,by show W.findIn K (.ref (aD a "NotLet")) _=_;rw[jV];exact T.i8⟩
theorem qC (T:Txt K mg a):r_ ⟨K,aD a,E⟩ a.bK ["NotLet"]:=by
 intro c hc;simp only[zan,zaL,or_false] at hc;rcases hc with rfl
 ·exact⟨_,_,qA T,by show (Value.ref (aD a "NotLet")::_).contains _=true;rw[jV];exact ML⟩
theorem gh (T:Txt K mg a):cN K (aD a "Match") "going" a.xB:=by rw[a_];exact T.jw.M
theorem z9 (T:Txt K mg a):cN K (aD a "Match") "most_innings" a.xC:=by rw[a_];exact T.Cq.M
theorem TL (T:Txt K mg a):cN K (aD a "Match") "total_of" a.xD:=by rw[a_];exact T.Nn.M
theorem se (T:Txt K mg a):cN K (aD a "Match") "lead_of" a.xE:=by rw[a_];exact T.yt.M
theorem z_ (T:Txt K mg a):cN K (aD a "Match") "is_done" a.xF:=by rw[a_];exact T.Cr.M
theorem GO (T:Txt K mg a):cN K (aD a "Match") "result" a.xG:=by rw[a_];exact T.GF.M
theorem GP (T:Txt K mg a):cN K (aD a "Match") "state" a.xH:=by rw[a_];exact T.GG.M
theorem GQ (T:Txt K mg a):cN K (aD a "Match") "players" a.xJ:=by rw[a_];exact T.GH.M
theorem GR (T:Txt K mg a):cN K (aD a "Match") "innings" a.xK:=by rw[a_];exact T.GI.M
theorem GS (T:Txt K mg a):cN K (aD a "Match") "next_side" a.xM:=by rw[a_];exact T.GJ.M
theorem GU (T:Txt K mg a):cN K (aD a "Match") "turn" a.xN:=by rw[a_];exact T.GK.M
theorem GV (T:Txt K mg a):cN K (aD a "Match") "side_to_start" a.xO:=by rw[a_];exact T.GL.M
theorem TM (T:Txt K mg a):cN K (aD a "Match") "start_refusal" a.xP:=by rw[a_];exact T.Nq.M
theorem m_ (T:Txt K mg a):cN K (aD a "Innings") "stands" a.xQ:=by rw[aY];exact T.qW.M
theorem TN (T:Txt K mg a):cN K (aD a "Match") "swap_refusal" a.xR:=by rw[a_];exact T.Nr.M
theorem TQ (T:Txt K mg a):cN K (aD a "Match") "may_follow" a.xS:=by rw[a_];exact T.Nt.M
theorem TR (T:Txt K mg a):cN K (aD a "Match") "follow_refusal" a.xT:=by rw[a_];exact T.Nu.M
theorem Aa (T:Txt K mg a):cN K (aD a "Innings") "has_gap" a.xU:=by rw[aY];exact T.Ct.M
theorem TU (T:Txt K mg a):cN K (aD a "Match") "refusal" a.xV:=by rw[a_];exact T.Nv.M
theorem TX (T:Txt K mg a):cN K (aD a "Match") "begin" a.xW:=by rw[a_];exact T.Nx.M
theorem TY (T:Txt K mg a):cN K (aD a "Innings") "out_by" a.xX:=by rw[aY];exact T.Ny.M
theorem Ab (T:Txt K mg a):cN K (aD a "Innings") "change_ends" a.xY:=by rw[aY];exact T.Cu.M
theorem GW (T:Txt K mg a):cN K (aD a "Innings") "leave" a.xZ:=by rw[aY];exact T.GN.M
theorem TZ (T:Txt K mg a):cN K (aD a "Innings") "fall" a.x_:=by rw[aY];exact T.Nz.M
theorem T4 (T:Txt K mg a):cN K (aD a "Innings") "count_fair" a.ya:=by rw[aY];exact T.NC.M
theorem T6 (T:Txt K mg a):cN K (aD a "Innings") "play" a.yb:=by rw[aY];exact T.ND.M
theorem T7 (T:Txt K mg a):cN K (aD a "Match") "play_ball" a.yc:=by rw[a_];exact T.NF.M
theorem T8 (T:Txt K mg a):cN K (aD a "Innings") "come_in" a.yd:=by rw[aY];exact T.NG.M
theorem T9 (T:Txt K mg a):cN K (aD a "Innings") "bowl_next" a.ye:=by rw[aY];exact T.NH.M
theorem T_ (T:Txt K mg a):cN K (aD a "Innings") "rename" a.yf:=by rw[aY];exact T.NI.M
theorem Ua (T:Txt K mg a):cN K (aD a "Match") "swap_player" a.yg:=by rw[a_];exact T.NJ.M
theorem Ub (T:Txt K mg a):cN K (aD a "Match") "close" a.yh:=by rw[a_];exact T.NK.M
theorem Uc (T:Txt K mg a):cN K (aD a "Match") "do" a.yi:=by rw[a_];exact T.NL.M
theorem Ud (T:Txt K mg a):cN K (aD a "Innings") "has_left" a.yj:=by rw[aY];exact T.NO.M
theorem Ue (T:Txt K mg a):cN K (aD a "Match") "ending_due" a.yk:=by rw[a_];exact T.NP.M
theorem sf (T:Txt K mg a):cN K (aD a "Match") "tell" a.ym:=by rw[a_];exact T.yu.M
theorem NW (T:Txt K mg a):cN K (aD a "Book") "tell" a.Jo:=by rw[eF];exact T.Tz.M
theorem EI (T:Txt K mg a):cN K (aD a "Book") "need_number" a.Jp:=by rw[eF];exact T.NR.M
theorem EJ (T:Txt K mg a):cN K (aD a "Book") "retell" a.Jq:=by rw[eF];exact T.NS.M
theorem ab2 (T:Txt K mg a):cN K (aD a "Book") "put_in" a.Jr:=by rw[eF];exact T.abV.M
theorem ab3 (T:Txt K mg a):cN K (aD a "Book") "put_right" a.Js:=by rw[eF];exact T.abW.M
theorem ab4 (T:Txt K mg a):cN K (aD a "Book") "take_out" a.Jt:=by rw[eF];exact T.abX.M
theorem ab5 (T:Txt K mg a):cN K (aD a "Book") "entries" a.Ju:=by rw[eF];exact T.abY.M
theorem Ug (T:Txt K mg a):cN K (aD a "Match") "log" a.yq:=by rw[a_];exact T.NT.M
theorem ab6 (T:Txt K mg a):cN K (aD a "Book") "match" a.Jv:=by rw[eF];exact T.abZ.M
end
local macro_rules
 | `(tactic|simp?[$x,*])=>`(tactic|simp only[↓bp,bx,simprocAttr,$x,*])
local macro_rules
 | `(tactic|exists $es,*)=>`(tactic|repeat' first|exact aao _|exact aap|exact aaq|exact aaz|refine RW ?_ ?_|refine Se ?_ ?_|refine aaN ?_|exact aaM|refine ahd ?_ ?_|refine aaO ?_|refine ahk ?_ ?_ ?_|refine ans _ (by assumption) ?_|refine kI (by first|exact aha|exact ahb|exact IV|exact IW|exact ag5|exact ag6|exact ahc|exact Gd) ?_ ?_ (yU _)|refine aaB ?_|refine zv (by first|exact ag8|exact ag4|exact ag3|exact ag2|exact ag7|exact apr) ?_ ?_|refine Sf ?_|exact aar|exact agW|refine aaC ?_|refine RX ?_|refine ahf ?_ ?_ ?_|refine R5 ?_|exact R4|refine aay ?_ ?_ ?_|refine qf (by first|exact aha|exact ahb|exact IV|exact IW|exact ag5|exact ag6|exact ahc|exact Gd) ?_ ?_ (yU _)|refine aav ?_ ?_|refine RV ?_|refine agY ?_ ?_|refine aau ?_|refine aaw ?_|refine aax ?_ ?_|refine agZ ?_ ?_|refine Sj ?_|refine aaQ ?_ ?_|refine aaL ?_ ?_|refine Mj ?_ ?_|exact Sd|exact Sn|refine So ?_|refine agX ag9 ?_|refine aat ?_ $[| refine $es]* | refine aas ?_|refine L4.t ?_)
section
variable {P:Program}{w:World}{K:W.Frag}{mg:Str->Option Value}{base:Heap}{a:Ad}
noncomputable abbrev NX:List Str:=["_law_script","_law_most","_law_cells","_law_k","_law_cell"]
theorem Ac:aq NX ["_law_script","_law_most"] (aj VN):=eW
noncomputable def GX:Fn:=lB (cT NX (ao (aP 2 (oU ak))
   (ao (qo (mEn 0 (af (aa 0) ak)) (jq 2 (eU (bO 3) (eU (bO 4) oZ)))
   (cP (mB (ai Dk (aa 3) (aa 1)))
   (di (rH Ja wg (aa 2) (af (aa 4) ak)))
   (Ml (ai bS (ai oW (ai bH (aa 2) (ai oV (aa 3) (aa 1))) (mC (.int 31))) (aa 4)) (aaK (aa 2) (ai oV (aa 3) (aa 1))))))
   (aI (aa 2)))))
theorem ab7 (T:Txt K mg a):aN P w K mg base dJ 2 a.BA a.t7 ["_law_script","_law_most"] (dm K (aD a) 2 GX):=
 aN.pure (aU T.WK.F Ac λ_ _ _ _ _ _=>(by have:=Ac.nd;exists (jB zbh ?_ ?_ ?_),(zC T.mz ?_),(kO (n:=2) ?_),(fq 3 Ac.nd),(fq 4 Ac.nd),(kN zaM zaY zaZ kM iY ?_ ?_)))
noncomputable abbrev W8:List Str:=["_law_cell","_law_at","_law_many","_law_k"]
theorem EK:aq W8 ["_law_cell","_law_at","_law_many"] (aj VO):=eW
noncomputable def GY:Fn:=cT W8 (ao (qo (tS (af (aa 1) ak)) (bO 3)
   (aP 0 (ai RY (aa 0) (mC (.int 60)))))
   (aI (ai oV (aa 0) (aa 2))))
theorem ab8 (T:Txt K mg a):aN P w K mg base dJ 2 a.BB a.t8 ["_law_cell","_law_at","_law_many"] (dm K (aD a) 3 GY):=
 aU T.WL.F EK λ_ _ _ _ _ _=>(by have:=EK.nd;exists (jB zbh ?_ ?_ ?_),(o7 T.pB ?_),(fq 3 EK.nd))
noncomputable abbrev W9:List Str:=["_law_script","_law_k","_law_many","_law_cell","_law_number"]
theorem NY:aq W9 ["_law_script","_law_k","_law_many"] (aj VP):=eW
noncomputable def cG:Fn:=cT W9 (ao (aP 3 (mC (.int 0)))
   (ao (cP (mB (ai D8 (bQ fU (af (aa 0) ak)) (mC (.int 0))))
   (aP 3 (ai bH (aa 0) (ai oV (aa 1) (bQ fU (af (aa 0) ak)))))
   aH)
   (ao (cP (mB (ai (cR false) (ai oV (bQ fU (af (aa 0) ak)) (mC (.int 2))) (mC (.int 1))))
   (aI (e_ 3 GY (af (aa 3) (af (ai oV (ai RY (aa 1) (bQ fU (af (aa 0) ak))) (mC (.int 20))) (af (aa 2) ak)))))
   aH)
   (ao (aP 4 (ai oV (ai oW (ai bS (ai bS (ai oV (aa 3) (mC (.int 2147483647))) (ai oW (mC (.int 7)) (aa 1))) (mC (.int 3))) (ai bS (mC (.int 48271)) (ai oW (ai oW (mC (.int 1103)) (aa 1)) (aa 1)))) (mC (.int 2147483629))))
   (aI (ai oV (ai RY (aa 4) (mC (.int 64))) (aa 2)))))))
theorem qD (T:Txt K mg a):aN P w K mg base dJ 3 a.BC a.t9 ["_law_script","_law_k","_law_many"] (dm K (aD a) 3 cG):=
 aU T.vE.F NY λ_ _ _ _ _ _=>(by have:=NY.nd;exists (cF iE T.iF zaG ?_),(cJ (ab8 T) T.WL ?_))
noncomputable abbrev W_:List Str:=["_law_script","_law_over","_law_overs","_law_spell","_law_follow","_law_beside","_law_side","_law_turns"]
theorem NZ:aq W_ ["_law_script"] (aj VQ):=eW
noncomputable def GZ:Fn:=cT W_ (ao (aP 1 (ai bS (mC (.int 1)) (e_ 3 cG (af (aa 0) (af (mC (.int 900)) (af (mC (.int 3)) ak))))))
   (ao (aP 2 (ai bH (ig (af (mC (.int 0)) (af (mC (.int 1)) (af (mC (.int 2)) (af (mC (.int 3)) (af (mC (.int 4)) ak)))))) (e_ 3 cG (af (aa 0) (af (mC (.int 901)) (af (mC (.int 5)) ak))))))
   (ao (aP 3 (ai bH (ig (af (mC (.int 0)) (af (mC (.int 0)) (af (mC (.int 1)) (af (mC (.int 2)) ak))))) (e_ 3 cG (af (aa 0) (af (mC (.int 902)) (af (mC (.int 4)) ak))))))
   (ao (aP 4 (ai bH (ig (af (mC (.int 0)) (af (mC (.int 1)) (af (mC (.int 3)) (af (mC (.int 8)) ak))))) (e_ 3 cG (af (aa 0) (af (mC (.int 903)) (af (mC (.int 4)) ak))))))
   (ao (aP 5 (cK (af (e_ 3 cG (af (aa 0) (af (mC (.int 904)) (af (mC (.int 3)) ak)))) (af (e_ 3 cG (af (aa 0) (af (mC (.int 905)) (af (mC (.int 3)) ak)))) ak))))
   (ao (aP 6 (ai bH (ig (af (mC (.int 2)) (af (mC (.int 3)) (af (mC (.int 4)) (af (mC (.int 2)) (af (mC (.int 3)) (af (mC (.int 4)) (af (mC (.int 9)) (af (mC (.int 11)) ak))))))))) (e_ 3 cG (af (aa 0) (af (mC (.int 906)) (af (mC (.int 8)) ak))))))
   (ao (aP 7 (ai bS (mC (.int 1)) (e_ 3 cG (af (aa 0) (af (mC (.int 907)) (af (mC (.int 2)) ak))))))
   (aI (cK (af (aa 1) (af (aa 2) (af (aa 3) (af (ai bH (aa 5) (mC (.int 0))) (af (ai bH (aa 5) (mC (.int 1))) (af (aa 6) (af (aa 7) (af (aa 4) ak)))))))))))))))))
theorem ab9 (T:Txt K mg a):aN P w K mg base dJ 4 a.BD a.t_ ["_law_script"] (dm K (aD a) 1 GZ):=
 aU T.WM.F NZ λ_ _ _ _ _ _=>(by have:=NZ.nd;exists (cJ (qD T) T.vE ?_))
noncomputable abbrev Xa:List Str:=["_law_script","_law_side","_law_letters","_law_ahead","_law_behind","_law_first","_law_names","_law_others"]
theorem Ae:aq Xa ["_law_script","_law_side"] (aj GC):=eW
noncomputable def G0:Fn:=cT Xa (ao (aP 2 (mC (.str "bcdfghjkmnpqvwxz")))
   (ao (aP 3 (ai oW (mC (.str "zq")) (e_ 3 cG (af (aa 0) (af (mC (.int 908)) (af (mC (.int 2)) ak))))))
   (ao (aP 4 (wZ lR (mC (.str "vzb")) dG (fY (e_ 3 cG (af (aa 0) (af (mC (.int 909)) (af (mC (.int 4)) ak)))))))
   (ao (aP 5 (e_ 3 cG (af (aa 0) (af (mC (.int 910)) (af (mC (.int 16)) ak)))))
   (ao (aP 6 (gq (tS (af (mC (.int 16)) ak)) [4,3,2,5] 1 (bO 4) jr (ai bS (ai bS (aa 1) (ai bH (aa 2) (ai oV (ai bS (aa 3) (aa 4)) (mC (.int 16))))) (aa 0))))
   (ao (aP 7 (wZ lR (aa 6) (fY (mC (.int 6))) (fY (ai bS (mC (.int 6)) (aa 1)))))
   (ao (cP (mB (ai D8 (aa 1) (mC (.int 4))))
   (aP 7 (gq (tR iL (wZ lR (aa 6) dG (fY (aa 1)))) [] 1 (bO 0) jr (ai bS (aa 0) (mC (.str "x")))))
   aH)
   (aI (ig (af (cK (af (ai bH (aa 6) (mC (.int 12))) (af (wZ lR (aa 6) dG (fY (aa 1))) ak))) (af (cK (af (ai bH (aa 6) (mC (.int 13))) (af (aa 7) ak))) ak)))))))))))
theorem acd (T:Txt K mg a):aN P w K mg base dJ 4 a.BE a.ua ["_law_script","_law_side"] (dm K (aD a) 2 G0):=
 aU T.WN.F Ae λ_ _ _ _ _ _=>(by have:=Ae.nd;exists (cJ (qD T) T.vE ?_),(zD (target:=.Name "_law_k" _) (i0:=6) (F:=["_law_behind","_law_ahead","_law_letters","_law_first"]) (T:=["_law_k"]) (fr:=[4,3,2,5]) (Kp GC (by decide +kernel)) ?_ (λ_ _ _ _ _=>?_) (λ_ _ _ _ _=>?_) (λ_ _ _ _ _=>?_) Ae.nd rfl rfl rfl),(o7 T.pB ?_),(fq 4 (show (["_law_behind","_law_ahead","_law_letters","_law_first","_law_k"]:List Str).Nodup by decide +kernel)),(zD (target:=.Name "_law_name" _) (i0:=7) (F:=[]) (T:=["_law_name"]) (fr:=[]) (Kp GC (by decide +kernel)) ?_ (λ_ _ _ _ _=>?_) (λ_ _ _ _ _=>?_) (λ_ _ _ _ _=>?_) Ae.nd rfl rfl rfl),(fq 0 (show (["_law_name"]:List Str).Nodup by decide +kernel)))
noncomputable abbrev Xb:List Str:=["teams","word","names","name","players"]
theorem Af:aq Xb ["teams","word"] (aj Nc):=eW
noncomputable def Cw:Fn:=cT Xb (ao (cP (mB (ai (cR false) (aa 1) (mC (.str "team"))))
   (aI (gq (tR iL (aa 0)) [] 2 (jq 2 (eU (bO 0) (eU (bO 1) oZ))) jr (aa 0)))
   aH)
   (ao (aP 2 (oU ak))
   (ao (qo (tR iL (aa 0)) (jq 2 (eU (bO 3) (eU (bO 4) oZ)))
   (di (rH Ja R9 (aa 2) (af (aa 4) ak))))
   (aI (aa 2)))))
theorem N1 (T:Txt K mg a):aN P w K mg base dJ 2 a.BF a.uc ["teams","word"] (dm K (aD a) 2 Cw):=
 aU T.Nm.F Af λ_ _ _ _ _ _=>(by have:=Af.nd;exists (iH (F:=[]) (T:=["name","players"]) (fr:=[]) (Kp Nc (by decide +kernel)) ?_ (λ_ _ _ _ _=>?_) (λ_ _ _ _ _=>?_) (λ_ _ _ _ _=>?_)),(kO (n:=2) ?_),(fq 0 (show (["name","players"]:List Str).Nodup by decide +kernel)),(fq 1 (show (["name","players"]:List Str).Nodup by decide +kernel)),(jB zbh ?_ ?_ ?_),(fq 3 Af.nd),(fq 4 Af.nd),(kN zaM PySem.F.slot_list_extend PySem.F.type_list_extend kM Mi ?_ ?_))
noncomputable abbrev Xc:List Str:=["self","rules","teams"]
theorem N2:aq Xc ["self","rules","teams"] (aj Nd):=eW
noncomputable def qX:Fn:=cT Xc (ao (bR ["Match"] "rules" (aa 0) (aa 1))
   (ao (bR ["Match"] "sides" (aa 0) (gq (tR iL (aa 2)) [] 2 (jq 2 (eU (bO 0) (eU (bO 1) oZ))) jr (cK (af (aa 0) (af (bQ qR (af (aa 1) ak)) ak)))))
   (ao (bR ["Match"] "known" (aa 0) (e_ 2 Cw (af (aa 2) (af (mC (.str "player")) ak))))
   (ao (bR ["Match"] "played" (aa 0) (oU ak))
   (ao (bR ["Match"] "followed" (aa 0) (mC (.bl false)))
   (ao (bR ["Match"] "closed" (aa 0) (mC (.bl false)))
   (bR ["Match"] "balls_told" (aa 0) (oU ak))))))))
theorem vI (T:Txt K mg a):aN P w K mg base dJ 3 a.t6 a.ud ["self","rules","teams"] (dm K (aD a) 3 qX):=
 aU T.yr.F N2 λ_ _ _ _ _ _=>(by have:=N2.nd;exists (aW (qz T) ?_ ?_),(aW (gR T) ?_ ?_),(iH (F:=[]) (T:=["name","players"]) (fr:=[]) (Kp Nd (by decide +kernel)) ?_ (λ_ _ _ _ _=>?_) (λ_ _ _ _ _=>?_) (λ_ _ _ _ _=>?_)),(kO (n:=2) ?_),(fq 0 (show (["name","players"]:List Str).Nodup by decide +kernel)),(fq 1 (show (["name","players"]:List Str).Nodup by decide +kernel)),(iQ tQ T.vD zbI ?_),(aW (Ez T) ?_ ?_),(cJ (N1 T) T.Nm ?_),(aW (i9 T) ?_ ?_),(aW (z6 T) ?_ ?_),(aW (z7 T) ?_ ?_),(aW (EA T) ?_ ?_))
noncomputable abbrev Xd:List Str:=["self"]
theorem N3:aq Xd ["self"] (aj VR):=eW
noncomputable def i_:Fn:=cT Xd (ao (cP (Dh (mB (ai (cR false) (bQ fU (af (aQ ["Match"] "played" (aa 0)) ak)) (mC (.int 0)))) (mB (ai (cR true) (aQ ["Innings"] "ending" (ai bH (aQ ["Match"] "played" (aa 0)) (mUn D9 (mC (.int 1))))) (mC (.str "")))))
   (aI (mC .br))
   aH)
   (aI (ai bH (aQ ["Match"] "played" (aa 0)) (mUn D9 (mC (.int 1))))))
theorem iw (T:Txt K mg a):aN P w K mg base dJ 2 a.xB a.ue ["self"] (dm K (aD a) 1 i_):=
 aU T.jw.F N3 λ_ _ _ _ _ _=>(by have:=N3.nd;exists (cF iE T.iF zaG ?_),(av (i9 T) ?_),(av (qy T) ?_))
noncomputable abbrev Xe:List Str:=["self"]
theorem N5:aq Xe ["self"] (aj VS):=eW
noncomputable def vJ:Fn:=cT Xe (aI (ai oW (mC (.int 2)) (ai bH (aQ ["Match"] "rules" (aa 0)) (mC (.int 6)))))
theorem EL (T:Txt K mg a):aN P w K mg base dJ 2 a.xC a.uf ["self"] (dm K (aD a) 1 vJ):=
 aU T.Cq.F N5 λ_ _ _ _ _ _=>(by have:=N5.nd;exists (cV T.pD),(av (qz T) ?_),(cV T.zX))
noncomputable abbrev Xf:List Str:=["self","side"]
theorem N6:aq Xf ["self","side"] (aj Nf):=eW
noncomputable def Cy:Fn:=lB (cT Xf (aI (bQ R6 (af (gq (tR iL (aQ ["Match"] "played" (aa 0))) [1] 1 (bO 1) (mB (ai (cR false) (aQ ["Innings"] "side" (aa 1)) (aa 0))) (aQ ["Innings"] "total" (aa 1))) ak))))
theorem ace (T:Txt K mg a):aN P w K mg base dJ 2 a.xD a.ug ["self","side"] (dm K (aD a) 2 Cy):=
 aN.pure (aU T.Nn.F N6 λ_ _ _ _ _ _=>(by have:=N6.nd;exists (cF ahg T.aiM PyProof.Rows.boot_sum ?_),(iH (F:=["side"]) (T:=["innings"]) (fr:=[1]) (Kp Nf (by decide +kernel)) ?_ (λ_ _ _ _ _=>?_) (λ_ _ _ _ _=>?_) (λ_ _ _ _ _=>?_)),(av (i9 T) ?_),(fq 1 (show (["side","innings"]:List Str).Nodup by decide +kernel)),(av (kX T) ?_),(av (vG T) ?_)))
noncomputable abbrev Xg:List Str:=["self","side"]
theorem N7:aq Xg ["self","side"] (aj VT):=eW
noncomputable def vK:Fn:=cT Xg (aI (ai dO (aF "Match" "total_of" 2 Cy (aa 0) (af (aa 1) ak)) (aF "Match" "total_of" 2 Cy (aa 0) (af (ai dO (mC (.int 1)) (aa 1)) ak))))
theorem Ag (T:Txt K mg a):aN P w K mg base dJ 3 a.xE a.uh ["self","side"] (dm K (aD a) 2 vK):=
 aU T.yt.F N7 λ_ _ _ _ _ _=>(by have:=N7.nd;exists (bf (az T) (TL T) (ace T) (by decide) T.Nn.b aA ?_ ?_))
noncomputable abbrev Xh:List Str:=["self","count"]
theorem N8:aq Xh ["self"] (aj VU):=eW
noncomputable def yx:Fn:=cT Xh (ao (cP (mB (aQ ["Match"] "closed" (aa 0)))
   (aI (mC (.bl true)))
   aH)
   (ao (cP (mB (ai (jh true) (aF "Match" "going" 1 i_ (aa 0) ak) (mC .br)))
   (aI (mC (.bl false)))
   aH)
   (ao (aP 1 (bQ fU (af (aQ ["Match"] "played" (aa 0)) ak)))
   (ao (cP (l9 (mB (ai (cR false) (aa 1) (ai dO (mC (.int 4)) (mC (.int 1))))) (mB (ai (cR false) (aF "Match" "most_innings" 1 vJ (aa 0) ak) (mC (.int 4)))))
   (aI (ai Dk (aF "Match" "lead_of" 2 vK (aa 0) (af (aQ ["Innings"] "side" (ai bH (aQ ["Match"] "played" (aa 0)) (mUn D9 (mC (.int 1))))) ak)) (mC (.int 0))))
   aH)
   (aI (ai gGe (aa 1) (aF "Match" "most_innings" 1 vJ (aa 0) ak)))))))
theorem EM (T:Txt K mg a):aN P w K mg base dJ 4 a.xF a.um ["self"] (dm K (aD a) 1 yx):=
 aU T.Cr.F N8 λ_ _ _ _ _ _=>(by have:=N8.nd;exists (av (z7 T) ?_),(aJ (az T) (gh T) (iw T) (by decide) T.jw.b aA ?_),(cF iE T.iF zaG ?_),(av (i9 T) ?_),(cV T.pC),(aJ (az T) (z9 T) (EL T) (by decide) T.Cq.b aA ?_),(bf (az T) (se T) (Ag T) (by decide) T.yt.b aA ?_ ?_),(av (kX T) ?_))
noncomputable abbrev Xi:List Str:=["self","lead"]
theorem N9:aq Xi ["self"] (aj VW):=eW
noncomputable def Cz:Fn:=lB (cT Xi (ao (cP (rG (mB (aF "Match" "is_done" 1 yx (aa 0) ak)))
   (aI (mC .br))
   aH)
   (ao (cP (mB (aQ ["Match"] "closed" (aa 0)))
   (aI (cK (af (mC (.str "closed")) ak)))
   aH)
   (ao (aP 1 (aF "Match" "lead_of" 2 vK (aa 0) (af (mC (.int 0)) ak)))
   (ao (cP (mB (ai (cR false) (aa 1) (mC (.int 0))))
   (aI (cK (af (mC (.str "tie")) ak)))
   aH)
   (aI (cK (af (mC (.str "won")) (af (ai bH (ai bH (aQ ["Match"] "sides" (aa 0)) (Di (mB (ai D8 (aa 1) (mC (.int 0)))) (mC (.int 0)) (mC (.int 1)))) (mC (.int 0))) ak)))))))))
theorem N_ (T:Txt K mg a):aN P w K mg base dJ 5 a.xG a.uo ["self"] (dm K (aD a) 1 Cz):=
 aN.pure (aU T.GF.F N9 λ_ _ _ _ _ _=>(by have:=N9.nd;exists (aJ (az T) (z_ T) (EM T) (by decide) T.Cr.b aA ?_),(av (z7 T) ?_),(bf (az T) (se T) (Ag T) (by decide) T.yt.b aA ?_ ?_),(av (gR T) ?_)))
noncomputable abbrev Xj:List Str:=["self","going","who"]
theorem Oa:aq Xj ["self"] (aj VX):=eW
noncomputable def CA:Fn:=lB (cT Xj (ao (aP 1 (aF "Match" "going" 1 i_ (aa 0) ak))
   (ao (cP (mB (ai (jh false) (aa 1) (mC .br)))
   (aI (mC .br))
   aH)
   (ao (aP 2 (cK (af (ai bH (ai bH (aQ ["Match"] "sides" (aa 0)) (aQ ["Innings"] "side" (aa 1))) (mC (.int 0))) (af (aQ ["Innings"] "facing" (aa 1)) (af (aQ ["Innings"] "other" (aa 1)) (af (aQ ["Innings"] "bowler" (aa 1)) ak))))))
   (aI (ai bS (aa 2) (cK (af (aQ ["Innings"] "total" (aa 1)) (af (aQ ["Innings"] "wickets" (aa 1)) (af (aQ ["Innings"] "overs" (aa 1)) (af (aQ ["Innings"] "balls" (aa 1)) ak)))))))))))
theorem Ob (T:Txt K mg a):aN P w K mg base dJ 3 a.xH a.uq ["self"] (dm K (aD a) 1 CA):=
 aN.pure (aU T.GG.F Oa λ_ _ _ _ _ _=>(by have:=Oa.nd;exists (aJ (az T) (gh T) (iw T) (by decide) T.jw.b aA ?_),(av (gR T) ?_),(av (kX T) ?_),(av (iu T) ?_),(av (mD T) ?_),(av (kY T) ?_),(av (vG T) ?_),(av (zZ T) ?_),(av (qx T) ?_),(av (nV T) ?_)))
noncomputable abbrev Xk:List Str:=["self"]
theorem Oc:aq Xk ["self"] (aj Ng):=eW
noncomputable def CB:Fn:=cT Xk (aI (gq (tR iL (aQ ["Match"] "sides" (aa 0))) [] 2 (jq 2 (eU (bO 0) (eU (bO 1) oZ))) jr (cK (af (aa 0) (af (bQ qR (af (aa 1) ak)) ak)))))
theorem Od (T:Txt K mg a):aN P w K mg base dJ 2 a.xJ a.ur ["self"] (dm K (aD a) 1 CB):=
 aU T.GH.F Oc λ_ _ _ _ _ _=>(by have:=Oc.nd;exists (iH (F:=[]) (T:=["name","players"]) (fr:=[]) (Kp Ng (by decide +kernel)) ?_ (λ_ _ _ _ _=>?_) (λ_ _ _ _ _=>?_) (λ_ _ _ _ _=>?_)),(av (gR T) ?_),(kO (n:=2) ?_),(fq 0 (show (["name","players"]:List Str).Nodup by decide +kernel)),(fq 1 (show (["name","players"]:List Str).Nodup by decide +kernel)),(iQ tQ T.vD zbI ?_))
noncomputable abbrev Xl:List Str:=["self","told","one"]
theorem EN:aq Xl ["self"] (aj VY):=eW
noncomputable def CD:Fn:=lB (cT Xl (ao (aP 1 (oU ak))
   (ao (qo (tR iL (aQ ["Match"] "played" (aa 0))) (bO 2)
   (di (rH Ja wg (aa 1) (af (cK (af (ai bH (ai bH (aQ ["Match"] "sides" (aa 0)) (aQ ["Innings"] "side" (aa 2))) (mC (.int 0))) (af (aQ ["Innings"] "total" (aa 2)) (af (aQ ["Innings"] "wickets" (aa 2)) (af (aQ ["Innings"] "overs" (aa 2)) (af (aQ ["Innings"] "balls" (aa 2)) (af (aQ ["Innings"] "ending" (aa 2)) ak))))))) ak))))
   (aI (aa 1)))))
theorem Oe (T:Txt K mg a):aN P w K mg base dJ 2 a.xK a.uv ["self"] (dm K (aD a) 1 CD):=
 aN.pure (aU T.GI.F EN λ_ _ _ _ _ _=>(by have:=EN.nd;exists (jB zbh ?_ ?_ ?_),(av (i9 T) ?_),(fq 2 EN.nd),(kN zaM zaY zaZ kM iY ?_ ?_),(av (gR T) ?_),(av (kX T) ?_),(av (vG T) ?_),(av (zZ T) ?_),(av (qx T) ?_),(av (nV T) ?_),(av (qy T) ?_)))
noncomputable abbrev Xm:List Str:=["self","last"]
theorem Of:aq Xm ["self"] (aj VZ):=eW
noncomputable def CF:Fn:=cT Xm (ao (cP (Dh (mB (ai (cR false) (bQ fU (af (aQ ["Match"] "played" (aa 0)) ak)) (mC (.int 0)))) (Dh (mB (ai (jh true) (aF "Match" "going" 1 i_ (aa 0) ak) (mC .br))) (mB (aF "Match" "is_done" 1 yx (aa 0) ak))))
   (aI (mC .br))
   aH)
   (ao (aP 1 (aQ ["Innings"] "side" (ai bH (aQ ["Match"] "played" (aa 0)) (mUn D9 (mC (.int 1))))))
   (ao (cP (l9 (mB (aQ ["Match"] "followed" (aa 0))) (mB (ai (cR false) (bQ fU (af (aQ ["Match"] "played" (aa 0)) ak)) (mC (.int 2)))))
   (aI (aa 1))
   aH)
   (aI (ai dO (mC (.int 1)) (aa 1))))))
theorem Og (T:Txt K mg a):aN P w K mg base dJ 5 a.xM a.uw ["self"] (dm K (aD a) 1 CF):=
 aU T.GJ.F Of λ_ _ _ _ _ _=>(by have:=Of.nd;exists (cF iE T.iF zaG ?_),(av (i9 T) ?_),(aJ (az T) (gh T) (iw T) (by decide) T.jw.b aA ?_),(aJ (az T) (z_ T) (EM T) (by decide) T.Cr.b aA ?_),(av (kX T) ?_),(av (z6 T) ?_))
noncomputable abbrev Xn:List Str:=["self","side"]
theorem Oh:aq Xn ["self"] (aj V0):=eW
noncomputable def vL:Fn:=cT Xn (ao (aP 1 (aF "Match" "next_side" 1 CF (aa 0) ak))
   (aI (Di (mB (ai (jh false) (aa 1) (mC .br))) (mC (.str "")) (ai bH (ai bH (aQ ["Match"] "sides" (aa 0)) (aa 1)) (mC (.int 0))))))
theorem Oi (T:Txt K mg a):aN P w K mg base dJ 6 a.xN a.ux ["self"] (dm K (aD a) 1 vL):=
 aU T.GK.F Oh λ_ _ _ _ _ _=>(by have:=Oh.nd;exists (aJ (az T) (GS T) (Og T) (by decide) T.GJ.b aA ?_),(av (gR T) ?_))
noncomputable abbrev Xo:List Str:=["_law_script","_law_k","_law_state","_law_kind","_law_runs","_law_way","_law_who","_law_end","_law_out"]
theorem Oj:aq Xo ["_law_script","_law_k","_law_state"] (aj V1):=eW
noncomputable def CG:Fn:=cT Xo (ao (aP 3 (ai bH (ig (af (mC (.str "bat")) (af (mC (.str "bat")) (af (mC (.str "bat")) (af (mC (.str "bye")) (af (mC (.str "leg")) (af (mC (.str "wide")) (af (mC (.str "no")) (af (mC (.str "nobye")) ak))))))))) (e_ 3 cG (af (aa 0) (af (aa 1) (af (mC (.int 8)) ak))))))
   (ao (aP 4 (ai bH (ig (af (mC (.int 0)) (af (mC (.int 0)) (af (mC (.int 1)) (af (mC (.int 1)) (af (mC (.int 2)) (af (mC (.int 3)) (af (mC (.int 4)) (af (mC (.int 6)) ak))))))))) (e_ 3 cG (af (aa 0) (af (ai bS (aa 1) (mC (.int 1))) (af (mC (.int 8)) ak))))))
   (ao (aP 5 (e_ 3 cG (af (aa 0) (af (ai bS (aa 1) (mC (.int 2))) (af (mC (.int 9)) ak)))))
   (ao (cP (mB (ai (cR false) (aa 5) (mC (.int 0))))
   (ao (aP 6 (ai bH (ig (af (ai bH (aa 2) (mC (.int 1))) (af (ai bH (aa 2) (mC (.int 2))) ak))) (e_ 3 cG (af (aa 0) (af (ai bS (aa 1) (mC (.int 3))) (af (mC (.int 2)) ak))))))
   (ao (aP 7 (ai bH (ig (af (mC (.str "strike")) (af (mC (.str "other")) ak))) (e_ 3 cG (af (aa 0) (af (ai bS (aa 1) (mC (.int 4))) (af (mC (.int 2)) ak))))))
   (aI (cK (af (mC (.str "ball")) (af (aa 3) (af (aa 4) (af (mC (.bl false)) (af (mC (.str "run")) (af (aa 6) (af (aa 7) ak)))))))))))
   aH)
   (ao (cP (mB (ai Dk (aa 5) (mC (.int 3))))
   (ao (aP 8 (ai bH (ig (af (mC (.str "bowled")) (af (mC (.str "caught")) (af (mC (.str "before")) (af (mC (.str "stumped")) (af (mC (.str "hit")) ak)))))) (e_ 3 cG (af (aa 0) (af (ai bS (aa 1) (mC (.int 3))) (af (mC (.int 5)) ak))))))
   (aI (cK (af (mC (.str "ball")) (af (mC (.str "bat")) (af (mC (.int 0)) (af (mC (.bl false)) (af (aa 8) (af (mC (.str "")) (af (mC (.str "")) ak))))))))))
   aH)
   (aI (cK (af (mC (.str "ball")) (af (aa 3) (af (aa 4) (af (ai (cR false) (e_ 3 cG (af (aa 0) (af (ai bS (aa 1) (mC (.int 3))) (af (mC (.int 4)) ak)))) (mC (.int 0))) (af (mC (.str "")) (af (mC (.str "")) (af (mC (.str "")) ak))))))))))))))
theorem Ol (T:Txt K mg a):aN P w K mg base dJ 4 a.BG a.uy ["_law_script","_law_k","_law_state"] (dm K (aD a) 3 CG):=
 aU T.Np.F Oj λ_ _ _ _ _ _=>(by have:=Oj.nd;exists (cJ (qD T) T.vE ?_))
noncomputable abbrev Xp:List Str:=["_law_script","_law_k","_law_teams_here","_law_match","_law_state","_law_now","_law_at","_law_order","_law_one","_law_fielders","_law_other","_law_fielder","_law_odd_here","_law_there","_law_players","_law_new"]
theorem ER:aq Xp ["_law_script","_law_k","_law_teams_here","_law_match"] (aj Nh):=eW
noncomputable def CH:Fn:=cT Xp (ao (aP 4 (aF "Match" "state" 1 CA (aa 3) ak))
   (ao (aP 5 (aF "Match" "players" 1 CB (aa 3) ak))
   (ao (cP (mB (ai (jh false) (aa 4) (mC .br)))
   (ao (cP (l9 (mB (ai (cR false) (bQ fU (af (aF "Match" "innings" 1 CD (aa 3) ak) ak)) (mC (.int 2)))) (mB (ai (cR false) (e_ 3 cG (af (aa 0) (af (aa 1) (af (mC (.int 2)) ak)))) (mC (.int 0)))))
   (aI (cK (af (mC (.str "follow")) ak)))
   aH)
   (ao (aP 6 (e_ 3 cG (af (aa 0) (af (ai bS (aa 1) (mC (.int 1))) (af (mC (.int 2)) ak)))))
   (ao (cP (mB (ai (cR true) (aF "Match" "turn" 1 vL (aa 3) ak) (mC (.str ""))))
   (aP 6 (rH Ja qj (ig (af (ai bH (ai bH (aa 5) (mC (.int 0))) (mC (.int 0))) (af (ai bH (ai bH (aa 5) (mC (.int 1))) (mC (.int 0))) ak))) (af (aF "Match" "turn" 1 vL (aa 3) ak) ak)))
   aH)
   (ao (aP 7 (ai bH (ai bH (aa 5) (aa 6)) (mC (.int 1))))
   (ao (aP 8 (e_ 3 cG (af (aa 0) (af (ai bS (aa 1) (mC (.int 2))) (af (bQ fU (af (aa 7) ak)) ak)))))
   (ao (aP 9 (ai bH (ai bH (aa 5) (ai dO (mC (.int 1)) (aa 6))) (mC (.int 1))))
   (ao (aP 10 (ai bH (aa 7) (ai oV (ai bS (aa 8) (mC (.int 1))) (bQ fU (af (aa 7) ak)))))
   (ao (aP 11 (ai bH (aa 9) (e_ 3 cG (af (aa 0) (af (ai bS (aa 1) (mC (.int 3))) (af (bQ fU (af (aa 9) ak)) ak))))))
   (aI (cK (af (mC (.str "start")) (af (ai bH (ai bH (aa 5) (aa 6)) (mC (.int 0))) (af (ai bH (aa 7) (aa 8)) (af (aa 10) (af (aa 11) ak)))))))))))))))
   aH)
   (ao (aP 6 (rH Ja qj (ig (af (ai bH (ai bH (aa 5) (mC (.int 0))) (mC (.int 0))) (af (ai bH (ai bH (aa 5) (mC (.int 1))) (mC (.int 0))) ak))) (af (ai bH (aa 4) (mC (.int 0))) ak)))
   (ao (aP 12 (e_ 3 cG (af (aa 0) (af (ai bS (aa 1) (mC (.int 4))) (af (mC (.int 40)) ak)))))
   (ao (cP (mB (ai (cR false) (aa 12) (mC (.int 0))))
   (aI (cK (af (mC (.str "declare")) ak)))
   aH)
   (ao (aP 13 (gq (tR iT (wZ lR (aa 4) (fY (mC (.int 1))) (fY (mC (.int 3))))) [] 1 (bO 0) (mB (ai (cR true) (aa 0) (mC (.str "")))) (aa 0)))
   (ao (cP (l9 (mB (ai (cR false) (aa 12) (mC (.int 1)))) (mB (ai (nQ true) (aa 13) (ig ak))))
   (aI (cK (af (mC (.str "hurt")) (af (ai bH (aa 13) (ai oV (e_ 3 cG (af (aa 0) (af (ai bS (aa 1) (mC (.int 5))) (af (mC (.int 2)) ak)))) (bQ fU (af (aa 13) ak)))) ak))))
   aH)
   (ao (cP (mB (ai (cR false) (aa 12) (mC (.int 2))))
   (ao (aP 14 (ai bS (ai bH (ai bH (aa 5) (mC (.int 0))) (mC (.int 1))) (ai bH (ai bH (aa 5) (mC (.int 1))) (mC (.int 1)))))
   (ao (aP 15 (ai bS (mC (.str "sw")) (ai bH (mC (.str "abcdefgh")) (e_ 3 cG (af (aa 0) (af (ai bS (aa 1) (mC (.int 6))) (af (mC (.int 8)) ak)))))))
   (aI (cK (af (mC (.str "swap")) (af (ai bH (aa 14) (e_ 3 cG (af (aa 0) (af (ai bS (aa 1) (mC (.int 5))) (af (bQ fU (af (aa 14) ak)) ak))))) (af (aa 15) ak)))))))
   aH)
   (ao (cP (Dh (mB (ai (cR false) (ai bH (aa 4) (mC (.int 1))) (mC (.str "")))) (mB (ai (cR false) (ai bH (aa 4) (mC (.int 2))) (mC (.str "")))))
   (aI (cK (af (mC (.str "in")) (af (ai bH (ai bH (ai bH (aa 5) (aa 6)) (mC (.int 1))) (e_ 3 cG (af (aa 0) (af (ai bS (aa 1) (mC (.int 5))) (af (bQ fU (af (ai bH (ai bH (aa 5) (aa 6)) (mC (.int 1))) ak)) ak))))) ak))))
   aH)
   (ao (cP (mB (ai (cR false) (ai bH (aa 4) (mC (.int 3))) (mC (.str ""))))
   (aI (cK (af (mC (.str "bowl")) (af (ai bH (ai bH (ai bH (aa 5) (ai dO (mC (.int 1)) (aa 6))) (mC (.int 1))) (e_ 3 cG (af (aa 0) (af (ai bS (aa 1) (mC (.int 5))) (af (bQ fU (af (ai bH (ai bH (aa 5) (ai dO (mC (.int 1)) (aa 6))) (mC (.int 1))) ak)) ak))))) ak))))
   aH)
   (aI (e_ 3 CG (af (aa 0) (af (ai bS (aa 1) (mC (.int 5))) (af (aa 4) ak))))))))))))))))
theorem acf (T:Txt K mg a):aN P w K mg base dJ 7 a.BH a.uz ["_law_script","_law_k","_law_teams_here","_law_match"] (dm K (aD a) 4 CH):=
 aU T.WO.F ER λ_ _ _ _ _ _=>(by have:=ER.nd;exists (aJ (az T) (GP T) (Ob T) (by decide) T.GG.b aA ?_),(aJ (az T) (GQ T) (Od T) (by decide) T.GH.b aA ?_),(cF iE T.iF zaG ?_),(aJ (az T) (GR T) (Oe T) (by decide) T.GI.b aA ?_),(cJ (qD T) T.vE ?_),(aJ (az T) (GU T) (Oi T) (by decide) T.GK.b aA ?_),(kN zaM PySem.F.slot_list_index PySem.F.type_list_index kM R_ ?_ ?_),(zD (i0:=13) (F:=[]) (T:=["_law_name"]) (fr:=[]) (Kp Nh (by decide +kernel)) ?_ (λ_ _ _ _ _=>?_) (λ_ _ _ _ _=>?_) (λ_ _ _ _ _=>?_) ER.nd rfl rfl rfl),(aaR ?_),(fq 0 (show (["_law_name"]:List Str).Nodup by decide +kernel)),(kI ah1 ?_ ?_ (yU _)),(cJ (Ol T) T.Np ?_))
noncomputable abbrev Xq:List Str:=["self","team","side"]
theorem ES:aq Xq ["self","team"] (aj V2):=eW
noncomputable def CI:Fn:=cT Xq (ao (qo (tS (af (mC (.int 2)) ak)) (bO 2)
   (cP (l9 (mB (ai (cR false) (ai bH (ai bH (aQ ["Match"] "sides" (aa 0)) (aa 2)) (mC (.int 0))) (aa 1))) (Dh (mB (ai (cR false) (bQ fU (af (aQ ["Match"] "played" (aa 0)) ak)) (mC (.int 0)))) (mB (ai (cR false) (aa 2) (aF "Match" "next_side" 1 CF (aa 0) ak)))))
   (aI (aa 2))
   aH))
   (aI (mC .br)))
theorem Om (T:Txt K mg a):aN P w K mg base dJ 6 a.xO a.uA ["self","team"] (dm K (aD a) 2 CI):=
 aU T.GL.F ES λ_ _ _ _ _ _=>(by have:=ES.nd;exists (jB zbh ?_ ?_ ?_),(o7 T.pB ?_),(cV T.pD),(fq 2 ES.nd),(av (gR T) ?_),(cF iE T.iF zaG ?_),(av (i9 T) ?_),(aJ (az T) (GS T) (Og T) (by decide) T.GJ.b aA ?_))
noncomputable abbrev Xr:List Str:=["self","entry","side","batting","fielding"]
theorem Oo:aq Xr ["self","entry"] (aj V3):=eW
noncomputable def G1:Fn:=cT Xr (ao (cP (mB (ai (jh true) (aF "Match" "going" 1 i_ (aa 0) ak) (mC .br)))
   (aI (mC (.str "going")))
   aH)
   (ao (aP 2 (aF "Match" "side_to_start" 2 CI (aa 0) (af (ai bH (aa 1) (mC (.int 1))) ak)))
   (ao (cP (mB (ai (jh false) (aa 2) (mC .br)))
   (aI (mC (.str "turn")))
   aH)
   (ao (aP 3 (ai bH (ai bH (aQ ["Match"] "sides" (aa 0)) (aa 2)) (mC (.int 1))))
   (ao (aP 4 (ai bH (ai bH (aQ ["Match"] "sides" (aa 0)) (ai dO (mC (.int 1)) (aa 2))) (mC (.int 1))))
   (ao (cP (Dh (mB (ai (AB true) (ai bH (aa 1) (mC (.int 2))) (aa 3))) (Dh (mB (ai (AB true) (ai bH (aa 1) (mC (.int 3))) (aa 3))) (mB (ai (AB true) (ai bH (aa 1) (mC (.int 4))) (aa 4)))))
   (aI (mC (.str "team")))
   aH)
   (aI (Di (mB (ai (cR false) (ai bH (aa 1) (mC (.int 2))) (ai bH (aa 1) (mC (.int 3))))) (mC (.str "alike")) (mC .br)))))))))
theorem acg (T:Txt K mg a):aN P w K mg base dJ 7 a.xP a.uB ["self","entry"] (dm K (aD a) 2 G1):=
 aU T.Nq.F Oo λ_ _ _ _ _ _=>(by have:=Oo.nd;exists (aJ (az T) (gh T) (iw T) (by decide) T.jw.b aA ?_),(bf (az T) (GV T) (Om T) (by decide) T.GL.b aA ?_ ?_),(av (gR T) ?_),(kI Bh ?_ ?_ (by with_unfolding_all rfl)))
noncomputable abbrev Xs:List Str:=["self","name"]
theorem Oq:aq Xs ["self","name"] (aj V4):=eW
noncomputable def pG:Fn:=cT Xs (aI (ai (AB false) (aa 1) (cK (af (aQ ["Innings"] "facing" (aa 0)) (af (aQ ["Innings"] "other" (aa 0)) ak)))))
theorem qE (T:Txt K mg a):aN P w K mg base dJ 2 a.xQ a.uC ["self","name"] (dm K (aD a) 2 pG):=
 aU T.qW.F Oq λ_ _ _ _ _ _=>(by have:=Oq.nd;exists (qf IY ?_ ?_ (by with_unfolding_all rfl)),(av (iu T) ?_),(av (mD T) ?_))
noncomputable abbrev Xu:List Str:=["innings","old"]
theorem Ot:aq Xu ["innings","old"] (aj V5):=eW
noncomputable def G2:Fn:=cT Xu (aI (Di (Dh (mB (aF "Innings" "stands" 2 pG (aa 0) (af (aa 1) ak))) (mB (ai (cR false) (aa 1) (aQ ["Innings"] "bowler" (aa 0))))) (mC (.str "there")) (mC .br)))
theorem ach (T:Txt K mg a):aN P w K mg base dJ 3 a.BI a.uD ["innings","old"] (dm K (aD a) 2 G2):=
 aU T.WQ.F Ot λ_ _ _ _ _ _=>(by have:=Ot.nd;exists (bf (bq T) (m_ T) (qE T) (by decide) T.qW.b aA ?_ ?_),(av (kY T) ?_))
noncomputable abbrev Xv:List Str:=["self","old","new","going"]
theorem Ou:aq Xv ["self","old","new"] (aj V6):=eW
noncomputable def G3:Fn:=cT Xv (ao (cP (mB (ai (AB true) (aa 1) (e_ 2 Cw (af (aQ ["Match"] "sides" (aa 0)) (af (mC (.str "player")) ak)))))
   (aI (mC (.str "team")))
   aH)
   (ao (cP (mB (ai (AB false) (aa 2) (aQ ["Match"] "known" (aa 0))))
   (aI (mC (.str "name")))
   aH)
   (ao (aP 3 (aF "Match" "going" 1 i_ (aa 0) ak))
   (aI (Di (mB (ai (jh false) (aa 3) (mC .br))) (mC .br) (e_ 2 G2 (af (aa 3) (af (aa 1) ak))))))))
theorem aci (T:Txt K mg a):aN P w K mg base dJ 4 a.xR a.uE ["self","old","new"] (dm K (aD a) 3 G3):=
 aU T.Nr.F Ou λ_ _ _ _ _ _=>(by have:=Ou.nd;exists (kI Bh ?_ ?_ (by with_unfolding_all rfl)),(cJ (N1 T) T.Nm ?_),(av (gR T) ?_),(kI IY ?_ ?_ (by with_unfolding_all rfl)),(av (Ez T) ?_),(aJ (az T) (gh T) (iw T) (by decide) T.jw.b aA ?_),(cJ (ach T) T.WQ ?_))
noncomputable abbrev Xw:List Str:=["self"]
theorem Ov:aq Xw ["self"] (aj V7):=eW
noncomputable def G4:Fn:=cT Xw (ao (cP (Dh (mB (ai (cR true) (bQ fU (af (aQ ["Match"] "played" (aa 0)) ak)) (mC (.int 2)))) (Dh (mB (ai (cR true) (aF "Match" "most_innings" 1 vJ (aa 0) ak) (mC (.int 4)))) (mB (aQ ["Match"] "followed" (aa 0)))))
   (aI (mC (.bl false)))
   aH)
   (aI (kH Dk Vv (mC (.int 0)) (ai bH (aQ ["Match"] "rules" (aa 0)) (mC (.int 7))) (aF "Match" "lead_of" 2 vK (aa 0) (af (aQ ["Innings"] "side" (ai bH (aQ ["Match"] "played" (aa 0)) (mC (.int 0)))) ak)))))
theorem acj (T:Txt K mg a):aN P w K mg base dJ 4 a.xS a.uF ["self"] (dm K (aD a) 1 G4):=
 aU T.Nt.F Ov λ_ _ _ _ _ _=>(by have:=Ov.nd;exists (cF iE T.iF zaG ?_),(av (i9 T) ?_),(aJ (az T) (z9 T) (EL T) (by decide) T.Cq.b aA ?_),(cV T.pC),(av (z6 T) ?_),(L8 IV IW ?_ ?_ ?_),(av (qz T) ?_),(cV T.Cn),(bf (az T) (se T) (Ag T) (by decide) T.yt.b aA ?_ ?_),(av (kX T) ?_))
noncomputable abbrev Xx:List Str:=["self"]
theorem Ow:aq Xx ["self"] (aj V8):=eW
noncomputable def G5:Fn:=cT Xx (ao (cP (mB (ai (jh true) (aF "Match" "going" 1 i_ (aa 0) ak) (mC .br)))
   (aI (mC (.str "going")))
   aH)
   (aI (Di (mB (aF "Match" "may_follow" 1 G4 (aa 0) ak)) (mC .br) (mC (.str "follow")))))
theorem ack (T:Txt K mg a):aN P w K mg base dJ 5 a.xT a.uG ["self"] (dm K (aD a) 1 G5):=
 aU T.Nu.F Ow λ_ _ _ _ _ _=>(by have:=Ow.nd;exists (aJ (az T) (gh T) (iw T) (by decide) T.jw.b aA ?_),(aJ (az T) (TQ T) (acj T) (by decide) T.Nt.b aA ?_))
noncomputable abbrev Xy:List Str:=["self"]
theorem Ox:aq Xy ["self"] (aj V9):=eW
noncomputable def yy:Fn:=cT Xy (aI (aF "Innings" "stands" 2 pG (aa 0) (af (mC (.str "")) ak)))
theorem ET (T:Txt K mg a):aN P w K mg base dJ 3 a.xU a.uH ["self"] (dm K (aD a) 1 yy):=
 aU T.Ct.F Ox λ_ _ _ _ _ _=>(by have:=Ox.nd;exists (bf (bq T) (m_ T) (qE T) (by decide) T.qW.b aA ?_ ?_))
noncomputable abbrev Xz:List Str:=["kind","runs"]
theorem Oz:aq Xz ["kind","runs"] (aj V_):=eW
noncomputable def G6:Fn:=cT Xz (aI (mOr (ai (cR false) (aa 1) (mC (.int 4))) (IT (ai (cR false) (aa 1) (mC (.int 6))) (ai (AB false) (aa 0) (cK (af (mC (.str "bat")) (af (mC (.str "no")) ak)))))))
theorem acm (T:Txt K mg a):aN P w K mg base dJ 2 a.BJ a.uI ["kind","runs"] (dm K (aD a) 2 G6):=
 aU T.WR.F Oz λ_ _ _ _ _ _=>(by have:=Oz.nd;exists (cV T.abU),(cV T.aiN),(qf IY ?_ ?_ (by with_unfolding_all rfl)))
noncomputable abbrev XA:List Str:=["kind","runs","rope","way"]
theorem OA:aq XA ["kind","runs","rope","way"] (aj Wa):=eW
noncomputable def G7:Fn:=cT XA (ao (cP (mB (ai (cR false) (aa 3) (mC (.str ""))))
   (aI (mC (.bl true)))
   aH)
   (ao (cP (mB (aa 2))
   (aI (mC (.bl false)))
   aH)
   (ao (cP (mB (ai (cR false) (aa 3) (mC (.str "run"))))
   (aI (mC (.bl true)))
   aH)
   (ao (cP (mB (ai (cR true) (aa 1) (mC (.int 0))))
   (aI (mC (.bl false)))
   aH)
   (ao (cP (mB (ai (AB false) (aa 3) (cK (af (mC (.str "stumped")) (af (mC (.str "hit")) ak)))))
   (aI (ai (AB false) (aa 0) (cK (af (mC (.str "bat")) (af (mC (.str "wide")) ak)))))
   aH)
   (aI (ai (cR false) (aa 0) (mC (.str "bat")))))))))
theorem acn (T:Txt K mg a):aN P w K mg base dJ 2 a.BK a.uJ ["kind","runs","rope","way"] (dm K (aD a) 4 G7):=
 aU T.WS.F OA λ_ _ _ _ _ _=>(by have:=OA.nd;exists (kI IY ?_ ?_ (by with_unfolding_all rfl)),(qf IY ?_ ?_ (by with_unfolding_all rfl)))
noncomputable abbrev XC:List Str:=["entry","kind","runs","rope"]
theorem OB:aq XC ["entry"] (aj Wb):=eW
noncomputable def G8:Fn:=cT XC (ao (aP 1 (ai bH (aa 0) (mC (.int 1))))
   (ao (aP 2 (ai bH (aa 0) (mC (.int 2))))
   (ao (aP 3 (ai bH (aa 0) (mC (.int 3))))
   (ao (cP (l9 (mB (aa 3)) (rG (mB (e_ 2 G6 (af (aa 1) (af (aa 2) ak))))))
   (aI (mC (.str "rope")))
   aH)
   (ao (cP (rG (mB (e_ 4 G7 (af (aa 1) (af (aa 2) (af (aa 3) (af (ai bH (aa 0) (mC (.int 4))) ak)))))))
   (aI (mC (.str "way")))
   aH)
   (aI (mC .br)))))))
theorem aco (T:Txt K mg a):aN P w K mg base dJ 3 a.BL a.uK ["entry"] (dm K (aD a) 1 G8):=
 aU T.WT.F OB λ_ _ _ _ _ _=>(by have:=OB.nd;exists (cJ (acm T) T.WR ?_),(cJ (acn T) T.WS ?_))
noncomputable abbrev XD:List Str:=["innings","entry","fault"]
theorem OC:aq XD ["innings","entry"] (aj Wc):=eW
noncomputable def G9:Fn:=cT XD (ao (cP (mB (aF "Innings" "has_gap" 1 yy (aa 0) ak))
   (aI (mC (.str "empty")))
   aH)
   (ao (cP (mB (ai (cR false) (aQ ["Innings"] "bowler" (aa 0)) (mC (.str ""))))
   (aI (mC (.str "bowler")))
   aH)
   (ao (aP 2 (e_ 1 G8 (af (aa 1) ak)))
   (ao (cP (l9 (mB (ai (jh false) (aa 2) (mC .br))) (l9 (mB (ai (cR false) (ai bH (aa 1) (mC (.int 4))) (mC (.str "run")))) (rG (mB (aF "Innings" "stands" 2 pG (aa 0) (af (ai bH (aa 1) (mC (.int 5))) ak))))))
   (aI (mC (.str "who")))
   aH)
   (aI (aa 2))))))
theorem acp (T:Txt K mg a):aN P w K mg base dJ 4 a.BN a.uL ["innings","entry"] (dm K (aD a) 2 G9):=
 aU T.WU.F OC λ_ _ _ _ _ _=>(by have:=OC.nd;exists (aJ (bq T) (Aa T) (ET T) (by decide) T.Ct.b aA ?_),(av (kY T) ?_),(cJ (aco T) T.WT ?_),(bf (bq T) (m_ T) (qE T) (by decide) T.qW.b aA ?_ ?_))
noncomputable abbrev XE:List Str:=["innings","batting","name"]
theorem OD:aq XE ["innings","batting","name"] (aj We):=eW
noncomputable def G_:Fn:=cT XE (ao (cP (rG (mB (aF "Innings" "has_gap" 1 yy (aa 0) ak)))
   (aI (mC (.str "full")))
   aH)
   (ao (cP (mB (ai (AB true) (aa 2) (aa 1)))
   (aI (mC (.str "team")))
   aH)
   (ao (cP (mB (ai (Bj false) (aa 2) (aQ ["Innings"] "outs" (aa 0))))
   (aI (mC (.str "out")))
   aH)
   (aI (Di (mB (aF "Innings" "stands" 2 pG (aa 0) (af (aa 2) ak))) (mC (.str "there")) (mC .br))))))
theorem acq (T:Txt K mg a):aN P w K mg base dJ 4 a.BO a.uM ["innings","batting","name"] (dm K (aD a) 3 G_):=
 aU T.WV.F OD λ_ _ _ _ _ _=>(by have:=OD.nd;exists (aJ (bq T) (Aa T) (ET T) (by decide) T.Ct.b aA ?_),(kI Bh ?_ ?_ (by with_unfolding_all rfl)),(aaF ?_ ?_),(av (m9 T) ?_),(bf (bq T) (m_ T) (qE T) (by decide) T.qW.b aA ?_ ?_))
noncomputable abbrev XF:List Str:=["innings","fielding","spell","name"]
theorem OE:aq XF ["innings","fielding","spell","name"] (aj Wf):=eW
noncomputable def Hf:Fn:=cT XF (ao (cP (mB (ai (cR true) (aQ ["Innings"] "bowler" (aa 0)) (mC (.str ""))))
   (aI (mC (.str "bowling")))
   aH)
   (ao (cP (mB (ai (AB true) (aa 3) (aa 1)))
   (aI (mC (.str "team")))
   aH)
   (ao (cP (mB (ai (cR false) (aa 3) (aQ ["Innings"] "ahead" (aa 0))))
   (aI (mC (.str "twice")))
   aH)
   (ao (cP (mB (kH Dk Vv (mC (.int 0)) (aa 2) (Gp (aQ ["Innings"] "spells" (aa 0)) (aa 3) (mC (.int 0)))))
   (aI (mC (.str "spell")))
   aH)
   (aI (mC .br))))))
theorem acr (T:Txt K mg a):aN P w K mg base dJ 2 a.BP a.uN ["innings","fielding","spell","name"] (dm K (aD a) 4 Hf):=
 aU T.WW.F OE λ_ _ _ _ _ _=>(by have:=OE.nd;exists (av (kY T) ?_),(kI Bh ?_ ?_ (by with_unfolding_all rfl)),(av (vF T) ?_),(tL IV IW ?_ ?_ ?_),(Gq ?_ ?_ ?_),(av (pF T) ?_))
noncomputable abbrev XG:List Str:=["innings","rules","batting","fielding","entry"]
theorem OF:aq XG ["innings","rules","batting","fielding","entry"] (aj Wg):=eW
noncomputable def Hg:Fn:=cT XG (ao (cP (mB (ai (cR false) (ai bH (aa 4) (mC (.int 0))) (mC (.str "ball"))))
   (aI (e_ 2 G9 (af (aa 0) (af (aa 4) ak))))
   aH)
   (ao (cP (mB (ai (cR false) (ai bH (aa 4) (mC (.int 0))) (mC (.str "in"))))
   (aI (e_ 3 G_ (af (aa 0) (af (aa 2) (af (ai bH (aa 4) (mC (.int 1))) ak)))))
   aH)
   (ao (cP (mB (ai (cR false) (ai bH (aa 4) (mC (.int 0))) (mC (.str "bowl"))))
   (aI (e_ 4 Hf (af (aa 0) (af (aa 3) (af (ai bH (aa 1) (mC (.int 2))) (af (ai bH (aa 4) (mC (.int 1))) ak))))))
   aH)
   (ao (cP (mB (ai (cR false) (ai bH (aa 4) (mC (.int 0))) (mC (.str "hurt"))))
   (aI (Di (mB (aF "Innings" "stands" 2 pG (aa 0) (af (ai bH (aa 4) (mC (.int 1))) ak))) (mC .br) (mC (.str "who"))))
   aH)
   (aI (mC .br))))))
theorem acs (T:Txt K mg a):aN P w K mg base dJ 5 a.BQ a.uO ["innings","rules","batting","fielding","entry"] (dm K (aD a) 5 Hg):=
 aU T.WX.F OF λ_ _ _ _ _ _=>(by have:=OF.nd;exists (cJ (acp T) T.WU ?_),(cJ (acq T) T.WV ?_),(cJ (acr T) T.WW ?_),(cV T.Ex),(bf (bq T) (m_ T) (qE T) (by decide) T.qW.b aA ?_ ?_))
noncomputable abbrev XH:List Str:=["self","entry","going","batting","fielding"]
theorem OG:aq XH ["self","entry"] (aj Wh):=eW
noncomputable def qY:Fn:=cT XH (ao (cP (mB (aF "Match" "is_done" 1 yx (aa 0) ak))
   (aI (mC (.str "done")))
   aH)
   (ao (cP (mB (ai (cR false) (ai bH (aa 1) (mC (.int 0))) (mC (.str "start"))))
   (aI (aF "Match" "start_refusal" 2 G1 (aa 0) (af (aa 1) ak)))
   aH)
   (ao (cP (mB (ai (cR false) (ai bH (aa 1) (mC (.int 0))) (mC (.str "swap"))))
   (aI (aF "Match" "swap_refusal" 3 G3 (aa 0) (af (ai bH (aa 1) (mC (.int 1))) (af (ai bH (aa 1) (mC (.int 2))) ak))))
   aH)
   (ao (cP (mB (ai (cR false) (ai bH (aa 1) (mC (.int 0))) (mC (.str "follow"))))
   (aI (aF "Match" "follow_refusal" 1 G5 (aa 0) ak))
   aH)
   (ao (cP (mB (ai (cR false) (ai bH (aa 1) (mC (.int 0))) (mC (.str "close"))))
   (aI (mC .br))
   aH)
   (ao (aP 2 (aF "Match" "going" 1 i_ (aa 0) ak))
   (ao (cP (mB (ai (jh false) (aa 2) (mC .br)))
   (aI (mC (.str "none")))
   aH)
   (ao (aP 3 (ai bH (ai bH (aQ ["Match"] "sides" (aa 0)) (aQ ["Innings"] "side" (aa 2))) (mC (.int 1))))
   (ao (aP 4 (ai bH (ai bH (aQ ["Match"] "sides" (aa 0)) (ai dO (mC (.int 1)) (aQ ["Innings"] "side" (aa 2)))) (mC (.int 1))))
   (aI (e_ 5 Hg (af (aa 2) (af (aQ ["Match"] "rules" (aa 0)) (af (aa 3) (af (aa 4) (af (aa 1) ak))))))))))))))))
theorem acu (T:Txt K mg a):aN P w K mg base dJ 8 a.xV a.uP ["self","entry"] (dm K (aD a) 2 qY):=
 aU T.Nv.F OG λ_ _ _ _ _ _=>(by have:=OG.nd;exists (aJ (az T) (z_ T) (EM T) (by decide) T.Cr.b aA ?_),(bf (az T) (TM T) (acg T) (by decide) T.Nq.b aA ?_ ?_),(bf (az T) (TN T) (aci T) (by decide) T.Nr.b aA ?_ ?_),(aJ (az T) (TR T) (ack T) (by decide) T.Nu.b aA ?_),(aJ (az T) (gh T) (iw T) (by decide) T.jw.b aA ?_),(av (gR T) ?_),(av (kX T) ?_),(cJ (acs T) T.WX ?_),(av (qz T) ?_))
noncomputable abbrev ajb:List Str:=["self","side","facing","other","bowler"]
theorem XI:aq ajb ["self","side","facing","other","bowler"] (aj aiz):=eW
noncomputable def Uh:Fn:=cT ajb (ao (bR ["Innings"] "side" (aa 0) (aa 1))
   (ao (bR ["Innings"] "facing" (aa 0) (aa 2))
   (ao (bR ["Innings"] "other" (aa 0) (aa 3))
   (ao (bR ["Innings"] "bowler" (aa 0) (aa 4))
   (ao (bR ["Innings"] "ahead" (aa 0) (mC (.str "")))
   (ao (bR ["Innings"] "total" (aa 0) (mC (.int 0)))
   (ao (bR ["Innings"] "wickets" (aa 0) (mC (.int 0)))
   (ao (bR ["Innings"] "overs" (aa 0) (mC (.int 0)))
   (ao (bR ["Innings"] "balls" (aa 0) (mC (.int 0)))
   (ao (bR ["Innings"] "ending" (aa 0) (mC (.str "")))
   (ao (bR ["Innings"] "outs" (aa 0) Ef)
   (bR ["Innings"] "spells" (aa 0) (Mu [((aa 4),(mC (.int 1)))])))))))))))))
theorem ajc (T:Txt K mg a):aN P w K mg base dJ 2 a.Et a.Ca ["self","side","facing","other","bowler"] (dm K (aD a) 5 Uh):=
 aU T.aiO.F XI λ_ _ _ _ _ _=>(by have:=XI.nd;exists (aW (kX T) ?_ ?_),(aW (iu T) ?_ ?_),(aW (mD T) ?_ ?_),(aW (kY T) ?_ ?_),(aW (vF T) ?_ ?_),(aW (vG T) ?_ ?_),(aW (zZ T) ?_ ?_),(aW (qx T) ?_ ?_),(aW (nV T) ?_ ?_),(aW (qy T) ?_ ?_),(aW (m9 T) ?_ ?_),Ms,(aW (pF T) ?_ ?_),(Sx ?_),(Sw ?_ ?_ ?_),aaU)
noncomputable abbrev XJ:List Str:=["self","entry","side"]
theorem OH:aq XJ ["self","entry"] (aj Wi):=eW
noncomputable def Hh:Fn:=cT XJ (ao (aP 2 (aF "Match" "side_to_start" 2 CI (aa 0) (af (ai bH (aa 1) (mC (.int 1))) ak)))
   (di (rH Ja wg (aQ ["Match"] "played" (aa 0)) (af (mw "Innings" 5 Uh (af (aa 2) (af (ai bH (aa 1) (mC (.int 2))) (af (ai bH (aa 1) (mC (.int 3))) (af (ai bH (aa 1) (mC (.int 4))) ak))))) ak))))
theorem acv (T:Txt K mg a):aN P w K mg base dJ 7 a.xW a.uQ ["self","entry"] (dm K (aD a) 2 Hh):=
 aU T.Nx.F OH λ_ _ _ _ _ _=>(by have:=OH.nd;exists (bf (az T) (GV T) (Om T) (by decide) T.GL.b aA ?_ ?_),(kN zaM zaY zaZ kM iY ?_ ?_),(av (i9 T) ?_),(kP (c:= "Innings") (Ey T) (ajc T) (by decide) (Cv T) T.aiO.b aA ?_))
noncomputable abbrev XM:List Str:=["rules","kind","runs","wide","noball"]
theorem OI:aq XM ["rules","kind","runs"] (aj Wj):=eW
noncomputable def Hi:Fn:=cT XM (ao (cP (mB (ai (cR false) (aa 1) (mC (.str "bat"))))
   (aI (cK (af (aa 2) (af (mC (.int 0)) (af (aa 2) ak)))))
   aH)
   (ao (cP (mB (ai (cR false) (aa 1) (mC (.str "wide"))))
   (ao (aP 3 (ai bS (ai bH (aa 0) (mC (.int 3))) (aa 2)))
   (aI (cK (af (mC (.int 0)) (af (aa 3) (af (aa 3) ak))))))
   aH)
   (ao (aP 4 (ai bH (aa 0) (mC (.int 4))))
   (ao (cP (mB (ai (cR false) (aa 1) (mC (.str "no"))))
   (aI (cK (af (aa 2) (af (aa 4) (af (ai bS (aa 4) (aa 2)) ak)))))
   aH)
   (ao (cP (mB (ai (cR false) (aa 1) (mC (.str "nobye"))))
   (aI (cK (af (mC (.int 0)) (af (ai bS (aa 4) (aa 2)) (af (aa 4) ak)))))
   aH)
   (aI (cK (af (mC (.int 0)) (af (aa 2) (af (mC (.int 0)) ak))))))))))
theorem acw (T:Txt K mg a):aN P w K mg base dJ 2 a.BR a.uR ["rules","kind","runs"] (dm K (aD a) 3 Hi):=
 aU T.WY.F OI λ_ _ _ _ _ _=>(by have:=OI.nd;exists (cV T.Jy),(cV T.Co))
noncomputable abbrev XN:List Str:=["rules","entry","kind","runs","by","fair","faced","crossed","credited"]
theorem OJ:aq XN ["rules","entry"] (aj Wk):=eW
noncomputable def Hj:Fn:=cT XN (ao (aP 2 (ai bH (aa 1) (mC (.int 1))))
   (ao (aP 3 (ai bH (aa 1) (mC (.int 2))))
   (ao (aP 4 (e_ 3 Hi (af (aa 0) (af (aa 2) (af (aa 3) ak)))))
   (ao (aP 5 (ai (AB false) (aa 2) (cK (af (mC (.str "bat")) (af (mC (.str "bye")) (af (mC (.str "leg")) ak))))))
   (ao (aP 6 (ai (cR true) (aa 2) (mC (.str "wide"))))
   (ao (aP 7 (IT (ai (cR false) (ai oV (aa 3) (mC (.int 2))) (mC (.int 1))) (Ma (ai bH (aa 1) (mC (.int 3))))))
   (ao (aP 8 (ai (AB true) (ai bH (aa 1) (mC (.int 4))) (cK (af (mC (.str "")) (af (mC (.str "run")) ak)))))
   (aI (ai bS (ai bS (cK (af (ai bS (ai bH (aa 4) (mC (.int 0))) (ai bH (aa 4) (mC (.int 1)))) ak)) (aa 4)) (cK (af (aa 5) (af (aa 6) (af (aa 7) (af (aa 8) ak))))))))))))))
theorem acy (T:Txt K mg a):aN P w K mg base dJ 3 a.BS a.uS ["rules","entry"] (dm K (aD a) 2 Hj):=
 aU T.WZ.F OJ λ_ _ _ _ _ _=>(by have:=OJ.nd;exists (cJ (acw T) T.WY ?_),(qf IY ?_ ?_ (by with_unfolding_all rfl)),(D4 ?_),(qf Bh ?_ ?_ (by with_unfolding_all rfl)))
noncomputable abbrev XO:List Str:=["self","entry"]
theorem OL:aq XO ["self","entry"] (aj Wl):=eW
noncomputable def Hl:Fn:=cT XO (ao (cP (mB (ai (cR false) (ai bH (aa 1) (mC (.int 4))) (mC (.str "run"))))
   (aI (ai bH (aa 1) (mC (.int 5))))
   aH)
   (aI (Di (mB (ai (cR false) (ai bH (aa 1) (mC (.int 4))) (mC (.str "")))) (mC (.str "")) (aQ ["Innings"] "facing" (aa 0)))))
theorem acz (T:Txt K mg a):aN P w K mg base dJ 2 a.xX a.uU ["self","entry"] (dm K (aD a) 2 Hl):=
 aU T.Ny.F OL λ_ _ _ _ _ _=>(by have:=OL.nd;exists (av (iu T) ?_))
noncomputable abbrev XQ:List Str:=["self","facing"]
theorem OM:aq XQ ["self"] (aj Wm):=eW
noncomputable def yz:Fn:=cT XQ (ao (aP 1 (aQ ["Innings"] "facing" (aa 0)))
   (ao (bR ["Innings"] "facing" (aa 0) (aQ ["Innings"] "other" (aa 0)))
   (bR ["Innings"] "other" (aa 0) (aa 1))))
theorem EU (T:Txt K mg a):aN P w K mg base dJ 2 a.xY a.uV ["self"] (dm K (aD a) 1 yz):=
 aU T.Cu.F OM λ_ _ _ _ _ _=>(by have:=OM.nd;exists (av (iu T) ?_),(aW (iu T) ?_ ?_),(av (mD T) ?_),(aW (mD T) ?_ ?_))
noncomputable abbrev XR:List Str:=["self","name"]
theorem ON:aq XR ["self","name"] (aj Wn):=eW
noncomputable def CJ:Fn:=cT XR (cP (mB (ai (cR false) (aQ ["Innings"] "facing" (aa 0)) (aa 1)))
   (bR ["Innings"] "facing" (aa 0) (mC (.str "")))
   (bR ["Innings"] "other" (aa 0) (mC (.str ""))))
theorem OO (T:Txt K mg a):aN P w K mg base dJ 2 a.xZ a.uW ["self","name"] (dm K (aD a) 2 CJ):=
 aU T.GN.F ON λ_ _ _ _ _ _=>(by have:=ON.nd;exists (av (iu T) ?_),(aW (iu T) ?_ ?_),(aW (mD T) ?_ ?_))
noncomputable abbrev XS:List Str:=["self","name","end","empty"]
theorem OP:aq XS ["self","name","end"] (aj Wo):=eW
noncomputable def Ho:Fn:=cT XS (ao (Gh (aQ ["Innings"] "outs" (aa 0)) (aa 1) (mC (.bl true)))
   (ao (w_ ["Innings"] "wickets" (λi j=>i+j) (aa 0) (mC (.int 1)))
   (ao (di (aF "Innings" "leave" 2 CJ (aa 0) (af (aa 1) ak)))
   (ao (aP 3 (Di (mB (ai (cR false) (aQ ["Innings"] "facing" (aa 0)) (mC (.str "")))) (mC (.str "strike")) (mC (.str "other"))))
   (cP (mB (ai (cR true) (aa 3) (aa 2)))
   (di (aF "Innings" "change_ends" 1 yz (aa 0) ak))
   aH)))))
theorem acA (T:Txt K mg a):aN P w K mg base dJ 3 a.x_ a.uX ["self","name","end"] (dm K (aD a) 3 Ho):=
 aU T.Nz.F OP λ_ _ _ _ _ _=>(by have:=OP.nd;exists (Gi ?_ ?_ ?_),(av (m9 T) ?_),(rZ r9 (zZ T) ?_ ?_),(bf (bq T) (GW T) (OO T) (by decide) T.GN.b aA ?_ ?_),(av (iu T) ?_),(aJ (bq T) (Ab T) (EU T) (by decide) T.Cu.b aA ?_))
noncomputable abbrev XT:List Str:=["self","over"]
theorem OQ:aq XT ["self","over"] (aj Wq):=eW
noncomputable def Hq:Fn:=cT XT (ao (w_ ["Innings"] "balls" (λi j=>i+j) (aa 0) (mC (.int 1)))
   (cP (mB (ai gGe (aQ ["Innings"] "balls" (aa 0)) (aa 1)))
   (ao (w_ ["Innings"] "overs" (λi j=>i+j) (aa 0) (mC (.int 1)))
   (ao (bR ["Innings"] "balls" (aa 0) (mC (.int 0)))
   (ao (di (aF "Innings" "change_ends" 1 yz (aa 0) ak))
   (ao (bR ["Innings"] "ahead" (aa 0) (aQ ["Innings"] "bowler" (aa 0)))
   (bR ["Innings"] "bowler" (aa 0) (mC (.str "")))))))
   aH))
theorem acB (T:Txt K mg a):aN P w K mg base dJ 3 a.ya a.uY ["self","over"] (dm K (aD a) 2 Hq):=
 aU T.NC.F OQ λ_ _ _ _ _ _=>(by have:=OQ.nd;exists (rZ r9 (nV T) ?_ ?_),(av (nV T) ?_),(rZ r9 (qx T) ?_ ?_),(aW (nV T) ?_ ?_),(aJ (bq T) (Ab T) (EU T) (by decide) T.Cu.b aA ?_),(aW (vF T) ?_ ?_),(av (kY T) ?_),(aW (kY T) ?_ ?_))
noncomputable abbrev XU:List Str:=["self","rules","entry","sums","out"]
theorem OR:aq XU ["self","rules","entry"] (aj Wr):=eW
noncomputable def Hr:Fn:=cT XU (ao (aP 3 (e_ 2 Hj (af (aa 1) (af (aa 2) ak))))
   (ao (aP 4 (aF "Innings" "out_by" 2 Hl (aa 0) (af (aa 2) ak)))
   (ao (w_ ["Innings"] "total" (λi j=>i+j) (aa 0) (ai bH (aa 3) (mC (.int 0))))
   (ao (cP (mB (ai bH (aa 3) (mC (.int 6))))
   (di (aF "Innings" "change_ends" 1 yz (aa 0) ak))
   aH)
   (ao (cP (mB (ai (cR true) (aa 4) (mC (.str ""))))
   (di (aF "Innings" "fall" 3 Ho (aa 0) (af (aa 4) (af (Di (mB (ai (cR false) (ai bH (aa 2) (mC (.int 4))) (mC (.str "run")))) (ai bH (aa 2) (mC (.int 6))) (mC (.str "strike"))) ak))))
   aH)
   (ao (cP (mB (ai bH (aa 3) (mC (.int 4))))
   (di (aF "Innings" "count_fair" 2 Hq (aa 0) (af (ai bH (aa 1) (mC (.int 0))) ak)))
   aH)
   (aI (aa 4))))))))
theorem acC (T:Txt K mg a):aN P w K mg base dJ 4 a.yb a.uZ ["self","rules","entry"] (dm K (aD a) 3 Hr):=
 aU T.ND.F OR λ_ _ _ _ _ _=>(by have:=OR.nd;exists (cJ (acy T) T.WZ ?_),(bf (bq T) (TY T) (acz T) (by decide) T.Ny.b aA ?_ ?_),(rZ r9 (vG T) ?_ ?_),(cV T.Cp),(cV T.zY),(aJ (bq T) (Ab T) (EU T) (by decide) T.Cu.b aA ?_),(bf (bq T) (TZ T) (acA T) (by decide) T.Nz.b aA ?_ ?_),(cV T.Jw),(bf (bq T) (T4 T) (acB T) (by decide) T.NC.b aA ?_ ?_),(cV T.Jx))
noncomputable abbrev XW:List Str:=["self","entry","going","ahead","out"]
theorem OS:aq XW ["self","entry"] (aj Ws):=eW
noncomputable def Hs:Fn:=cT XW (ao (aP 2 (aF "Match" "going" 1 i_ (aa 0) ak))
   (ao (aP 3 (cK (af (ai dO (bQ fU (af (aQ ["Match"] "played" (aa 0)) ak)) (mC (.int 1))) (af (aQ ["Innings"] "overs" (aa 2)) (af (aQ ["Innings"] "balls" (aa 2)) (af (aQ ["Innings"] "facing" (aa 2)) (af (aQ ["Innings"] "other" (aa 2)) (af (aQ ["Innings"] "bowler" (aa 2)) ak))))))))
   (ao (aP 4 (aF "Innings" "play" 3 Hr (aa 2) (af (aQ ["Match"] "rules" (aa 0)) (af (aa 1) ak))))
   (di (rH Ja wg (aQ ["Match"] "balls_told" (aa 0)) (af (ai bS (aa 3) (cK (af (aa 1) (af (aa 4) ak)))) ak))))))
theorem acD (T:Txt K mg a):aN P w K mg base dJ 5 a.yc a.u5 ["self","entry"] (dm K (aD a) 2 Hs):=
 aU T.NF.F OS λ_ _ _ _ _ _=>(by have:=OS.nd;exists (aJ (az T) (gh T) (iw T) (by decide) T.jw.b aA ?_),(cF iE T.iF zaG ?_),(av (i9 T) ?_),(av (qx T) ?_),(av (nV T) ?_),(av (iu T) ?_),(av (mD T) ?_),(av (kY T) ?_),(bf (bq T) (T6 T) (acC T) (by decide) T.ND.b aA ?_ ?_),(av (qz T) ?_),(kN zaM zaY zaZ kM iY ?_ ?_),(av (EA T) ?_))
noncomputable abbrev XX:List Str:=["self","name"]
theorem OT:aq XX ["self","name"] (aj Wt):=eW
noncomputable def Ht:Fn:=cT XX (cP (mB (ai (cR false) (aQ ["Innings"] "facing" (aa 0)) (mC (.str ""))))
   (bR ["Innings"] "facing" (aa 0) (aa 1))
   (bR ["Innings"] "other" (aa 0) (aa 1)))
theorem acE (T:Txt K mg a):aN P w K mg base dJ 2 a.yd a.u6 ["self","name"] (dm K (aD a) 2 Ht):=
 aU T.NG.F OT λ_ _ _ _ _ _=>(by have:=OT.nd;exists (av (iu T) ?_),(aW (iu T) ?_ ?_),(aW (mD T) ?_ ?_))
noncomputable abbrev XY:List Str:=["self","name"]
theorem OU:aq XY ["self","name"] (aj Wu):=eW
noncomputable def Hu:Fn:=cT XY (ao (bR ["Innings"] "bowler" (aa 0) (aa 1))
   (Gh (aQ ["Innings"] "spells" (aa 0)) (aa 1) (ai bS (Gp (aQ ["Innings"] "spells" (aa 0)) (aa 1) (mC (.int 0))) (mC (.int 1)))))
theorem acF (T:Txt K mg a):aN P w K mg base dJ 2 a.ye a.u9 ["self","name"] (dm K (aD a) 2 Hu):=
 aU T.NH.F OU λ_ _ _ _ _ _=>(by have:=OU.nd;exists (aW (kY T) ?_ ?_),(Gi ?_ ?_ ?_),(av (pF T) ?_),(Gq ?_ ?_ ?_))
noncomputable abbrev XZ:List Str:=["players","old","new"]
theorem OV:aq XZ ["players","old","new"] (aj Ni):=eW
noncomputable def Hv:Fn:=cT XZ (aI (gq (tR iL (aa 0)) [2,1] 1 (bO 2) jr (Di (mB (ai (cR false) (aa 2) (aa 1))) (aa 0) (aa 2))))
theorem acG (T:Txt K mg a):aN P w K mg base dJ 2 a.BU a.u_ ["players","old","new"] (dm K (aD a) 3 Hv):=
 aU T.W0.F OV λ_ _ _ _ _ _=>(by have:=OV.nd;exists (iH (F:=["new","old"]) (T:=["name"]) (fr:=[2,1]) (Kp Ni (by decide +kernel)) ?_ (λ_ _ _ _ _=>?_) (λ_ _ _ _ _=>?_) (λ_ _ _ _ _=>?_)),(fq 2 (show (["new","old","name"]:List Str).Nodup by decide +kernel)))
noncomputable abbrev X0:List Str:=["told","old","new"]
theorem OW:aq X0 ["told","old","new"] (aj Nj):=eW
noncomputable def CK:Fn:=cT X0 (aI (bQ zS (af (gq (tR iD (aa 0)) [2,0,1] 1 (bO 3) jr (cK (af (Di (mB (ai (cR false) (aa 3) (aa 2))) (aa 0) (aa 3)) (af (ai M7 (aa 1) (aa 3)) ak)))) ak)))
theorem acH (T:Txt K mg a):aN P w K mg base dJ 2 a.BV a.vc ["told","old","new"] (dm K (aD a) 3 CK):=
 aU T.W2.F OW λ_ _ _ _ _ _=>(by have:=OW.nd;exists (iQ Tu T.abT PyProof.Rows.boot_dict ?_),(iH (F:=["new","told","old"]) (T:=["name"]) (fr:=[2,0,1]) (Kp Nj (by decide +kernel)) ?_ (λ_ _ _ _ _=>?_) (λ_ _ _ _ _=>?_) (λ_ _ _ _ _=>?_)),(Tt ?_),(fq 3 (show (["new","told","old","name"]:List Str).Nodup by decide +kernel)),(abM ?_ ?_))
noncomputable abbrev X3:List Str:=["self","old","new"]
theorem OX:aq X3 ["self","old","new"] (aj Wv):=eW
noncomputable def Hw:Fn:=cT X3 (ao (bR ["Innings"] "outs" (aa 0) (e_ 3 CK (af (aQ ["Innings"] "outs" (aa 0)) (af (aa 1) (af (aa 2) ak)))))
   (ao (bR ["Innings"] "spells" (aa 0) (e_ 3 CK (af (aQ ["Innings"] "spells" (aa 0)) (af (aa 1) (af (aa 2) ak)))))
   (cP (mB (ai (cR false) (aQ ["Innings"] "ahead" (aa 0)) (aa 1)))
   (bR ["Innings"] "ahead" (aa 0) (aa 2))
   aH)))
theorem acI (T:Txt K mg a):aN P w K mg base dJ 3 a.yf a.vd ["self","old","new"] (dm K (aD a) 3 Hw):=
 aU T.NI.F OX λ_ _ _ _ _ _=>(by have:=OX.nd;exists (aW (m9 T) ?_ ?_),(cJ (acH T) T.W2 ?_),(av (m9 T) ?_),(aW (pF T) ?_ ?_),(av (pF T) ?_),(av (vF T) ?_),(aW (vF T) ?_ ?_))
noncomputable abbrev X4:List Str:=["self","old","new","going"]
theorem OY:aq X4 ["self","old","new"] (aj Nk):=eW
noncomputable def Hx:Fn:=cT X4 (ao (di (rH Ja wg (aQ ["Match"] "known" (aa 0)) (af (aa 2) ak)))
   (ao (bR ["Match"] "sides" (aa 0) (gq (tR iL (aQ ["Match"] "sides" (aa 0))) [1,2] 2 (jq 2 (eU (bO 2) (eU (bO 3) oZ))) jr (cK (af (aa 2) (af (e_ 3 Hv (af (aa 3) (af (aa 0) (af (aa 1) ak)))) ak)))))
   (ao (aP 3 (aF "Match" "going" 1 i_ (aa 0) ak))
   (cP (mB (ai (jh true) (aa 3) (mC .br)))
   (di (aF "Innings" "rename" 3 Hw (aa 3) (af (aa 1) (af (aa 2) ak))))
   aH))))
theorem acJ (T:Txt K mg a):aN P w K mg base dJ 4 a.yg a.ve ["self","old","new"] (dm K (aD a) 3 Hx):=
 aU T.NJ.F OY λ_ _ _ _ _ _=>(by have:=OY.nd;exists (kN zaM zaY zaZ kM iY ?_ ?_),(av (Ez T) ?_),(aW (gR T) ?_ ?_),(iH (F:=["old","new"]) (T:=["name","players"]) (fr:=[1,2]) (Kp Nk (by decide +kernel)) ?_ (λ_ _ _ _ _=>?_) (λ_ _ _ _ _=>?_) (λ_ _ _ _ _=>?_)),(av (gR T) ?_),(kO (n:=2) ?_),(fq 2 (show (["old","new","name","players"]:List Str).Nodup by decide +kernel)),(fq 3 (show (["old","new","name","players"]:List Str).Nodup by decide +kernel)),(cJ (acG T) T.W0 ?_),(aJ (az T) (gh T) (iw T) (by decide) T.jw.b aA ?_),(bf (bq T) (T_ T) (acI T) (by decide) T.NI.b aA ?_ ?_))
noncomputable abbrev X5:List Str:=["self","going"]
theorem OZ:aq X5 ["self"] (aj Ww):=eW
noncomputable def Hy:Fn:=cT X5 (ao (bR ["Match"] "closed" (aa 0) (mC (.bl true)))
   (ao (aP 1 (aF "Match" "going" 1 i_ (aa 0) ak))
   (cP (mB (ai (jh true) (aa 1) (mC .br)))
   (bR ["Innings"] "ending" (aa 1) (mC (.str "closed")))
   aH)))
theorem acK (T:Txt K mg a):aN P w K mg base dJ 3 a.yh a.vf ["self"] (dm K (aD a) 1 Hy):=
 aU T.NK.F OZ λ_ _ _ _ _ _=>(by have:=OZ.nd;exists (aW (z7 T) ?_ ?_),(aJ (az T) (gh T) (iw T) (by decide) T.jw.b aA ?_),(aW (qy T) ?_ ?_))
noncomputable abbrev X6:List Str:=["self","entry","going","word"]
theorem O0:aq X6 ["self","entry"] (aj Wx):=eW
noncomputable def vM:Fn:=cT X6 (ao (aP 2 (aF "Match" "going" 1 i_ (aa 0) ak))
   (ao (aP 3 (ai bH (aa 1) (mC (.int 0))))
   (cP (mB (ai (cR false) (aa 3) (mC (.str "start"))))
   (di (aF "Match" "begin" 2 Hh (aa 0) (af (aa 1) ak)))
   (cP (mB (ai (cR false) (aa 3) (mC (.str "ball"))))
   (di (aF "Match" "play_ball" 2 Hs (aa 0) (af (aa 1) ak)))
   (cP (mB (ai (cR false) (aa 3) (mC (.str "in"))))
   (di (aF "Innings" "come_in" 2 Ht (aa 2) (af (ai bH (aa 1) (mC (.int 1))) ak)))
   (cP (mB (ai (cR false) (aa 3) (mC (.str "bowl"))))
   (di (aF "Innings" "bowl_next" 2 Hu (aa 2) (af (ai bH (aa 1) (mC (.int 1))) ak)))
   (cP (mB (ai (cR false) (aa 3) (mC (.str "hurt"))))
   (di (aF "Innings" "leave" 2 CJ (aa 2) (af (ai bH (aa 1) (mC (.int 1))) ak)))
   (cP (mB (ai (cR false) (aa 3) (mC (.str "swap"))))
   (di (aF "Match" "swap_player" 3 Hx (aa 0) (af (ai bH (aa 1) (mC (.int 1))) (af (ai bH (aa 1) (mC (.int 2))) ak))))
   (cP (mB (ai (cR false) (aa 3) (mC (.str "declare"))))
   (bR ["Innings"] "ending" (aa 2) (mC (.str "declared")))
   (cP (mB (ai (cR false) (aa 3) (mC (.str "follow"))))
   (bR ["Match"] "followed" (aa 0) (mC (.bl true)))
   (di (aF "Match" "close" 1 Hy (aa 0) ak))))))))))))
theorem acL (T:Txt K mg a):aN P w K mg base dJ 8 a.yi a.vg ["self","entry"] (dm K (aD a) 2 vM):=
 aU T.NL.F O0 λ_ _ _ _ _ _=>(by have:=O0.nd;exists (aJ (az T) (gh T) (iw T) (by decide) T.jw.b aA ?_),(bf (az T) (TX T) (acv T) (by decide) T.Nx.b aA ?_ ?_),(bf (az T) (T7 T) (acD T) (by decide) T.NF.b aA ?_ ?_),(bf (bq T) (T8 T) (acE T) (by decide) T.NG.b aA ?_ ?_),(bf (bq T) (T9 T) (acF T) (by decide) T.NH.b aA ?_ ?_),(bf (bq T) (GW T) (OO T) (by decide) T.GN.b aA ?_ ?_),(bf (az T) (Ua T) (acJ T) (by decide) T.NJ.b aA ?_ ?_),(aW (qy T) ?_ ?_),(aW (z6 T) ?_ ?_),(aJ (az T) (Ub T) (acK T) (by decide) T.NK.b aA ?_))
noncomputable abbrev X7:List Str:=["self","players"]
theorem O1:aq X7 ["self","players"] (aj Nl):=eW
noncomputable def Hz:Fn:=cT X7 (aI (bQ R7 (af (gq (tR iL (aa 1)) [0] 1 (bO 1) jr (IT (ai (Bj true) (aa 1) (aQ ["Innings"] "outs" (aa 0))) (Ma (aF "Innings" "stands" 2 pG (aa 0) (af (aa 1) ak))))) ak)))
theorem acM (T:Txt K mg a):aN P w K mg base dJ 3 a.yj a.vh ["self","players"] (dm K (aD a) 2 Hz):=
 aU T.NO.F O1 λ_ _ _ _ _ _=>(by have:=O1.nd;exists (cF ahh T.aiI PyProof.Rows.boot_any ?_),(iH (F:=["self"]) (T:=["name"]) (fr:=[0]) (Kp Nl (by decide +kernel)) ?_ (λ_ _ _ _ _=>?_) (λ_ _ _ _ _=>?_) (λ_ _ _ _ _=>?_)),(fq 1 (show (["self","name"]:List Str).Nodup by decide +kernel)),(R0 ?_ ?_),(av (m9 T) ?_),(D4 ?_),(bf (bq T) (m_ T) (qE T) (by decide) T.qW.b aA ?_ ?_))
noncomputable abbrev X8:List Str:=["self","going"]
theorem O2:aq X8 ["self","going"] (aj Wy):=eW
noncomputable def HA:Fn:=cT X8 (ao (cP (l9 (mB (ai (cR false) (bQ fU (af (aQ ["Match"] "played" (aa 0)) ak)) (aF "Match" "most_innings" 1 vJ (aa 0) ak))) (mB (ai D8 (aF "Match" "lead_of" 2 vK (aa 0) (af (aQ ["Innings"] "side" (aa 1)) ak)) (mC (.int 0)))))
   (aI (mC (.str "won")))
   aH)
   (ao (cP (l9 (mB (aF "Innings" "has_gap" 1 yy (aa 1) ak)) (rG (mB (aF "Innings" "has_left" 2 Hz (aa 1) (af (ai bH (ai bH (aQ ["Match"] "sides" (aa 0)) (aQ ["Innings"] "side" (aa 1))) (mC (.int 1))) ak)))))
   (aI (mC (.str "out")))
   aH)
   (aI (Di (mB (kH Dk Vv (mC (.int 0)) (ai bH (aQ ["Match"] "rules" (aa 0)) (mC (.int 1))) (aQ ["Innings"] "overs" (aa 1)))) (mC (.str "overs")) (mC (.str ""))))))
theorem acN (T:Txt K mg a):aN P w K mg base dJ 4 a.yk a.vj ["self","going"] (dm K (aD a) 2 HA):=
 aU T.NP.F O2 λ_ _ _ _ _ _=>(by have:=O2.nd;exists (cF iE T.iF zaG ?_),(av (i9 T) ?_),(aJ (az T) (z9 T) (EL T) (by decide) T.Cq.b aA ?_),(bf (az T) (se T) (Ag T) (by decide) T.yt.b aA ?_ ?_),(av (kX T) ?_),(aJ (bq T) (Aa T) (ET T) (by decide) T.Ct.b aA ?_),(bf (bq T) (Ud T) (acM T) (by decide) T.NO.b aA ?_ ?_),(av (gR T) ?_),(tL IV IW ?_ ?_ ?_),(av (qz T) ?_),(cV T.Ew),(av (qx T) ?_))
noncomputable abbrev X_:List Str:=["self","entry","rule","going"]
theorem O3:aq X_ ["self","entry"] (aj Wz):=eW
noncomputable def lD:Fn:=fnX X_ (ao (aP 2 (aF "Match" "refusal" 2 qY (aa 0) (af (aa 1) ak)))
   (ao (cP (mB (ai (jh true) (aa 2) (mC .br)))
   (zH "NotLet" 3 (gT2 "rule" "number") [.int 0] (af (fJ [(mC (.str "the rules don't let this entry: ")),(aaX (aa 2))] Str.empty) (af (aa 2) ak)))
   aH)
   (ao (di (aF "Match" "do" 2 vM (aa 0) (af (aa 1) ak)))
   (ao (aP 3 (aF "Match" "going" 1 i_ (aa 0) ak))
   (cP (mB (ai (jh true) (aa 3) (mC .br)))
   (bR ["Innings"] "ending" (aa 3) (aF "Match" "ending_due" 2 HA (aa 0) (af (aa 3) ak)))
   aH)))))
theorem Ah (T:Txt K mg a):aN P w K mg base (qa P w) 9 a.ym a.vm ["self","entry"] (dm K (aD a) 2 lD):=
 MF T.yu.F O3 λ_ _ _ _ _ _=>(by have:=O3.nd;exists (bf (az T) (TU T) (acu T) (by decide) T.Nv.b aA ?_ ?_),(ME (c:= "NotLet") (n:=3) (g:=gE2 "rule" "number") (gT:=gT2 "rule" "number") (Gw:=[.int 0]) (mU:=[.int 0]) (qA T) (nX T) (by decide) (EH T) T.yw (.cons ⟨_,rfl⟩ .nil) (λ_=>.cons dU .nil) gR2 ?_),(SA ?_),(Sy ?_ ?_),(aaY ?_),aaZ,(bf (az T) (Uc T) (acL T) (by decide) T.NL.b aA ?_ ?_),(aJ (az T) (gh T) (iw T) (by decide) T.jw.b aA ?_),(aW (qy T) ?_ ?_),(bf (az T) (Ue T) (acN T) (by decide) T.NP.b aA ?_ ?_))
noncomputable abbrev ajd:List Str:=["self","entry"]
theorem Yb:aq ajd ["self","entry"] (aj aiA):=eW
noncomputable def EV:Fn:=fnX ajd (ao (di (aF "Match" "tell" 2 lD (aQ ["Book"] "current" (aa 0)) (af (aa 1) ak)))
   (di (rH Ja wg (aQ ["Book"] "kept" (aa 0)) (af (aa 1) ak))))
theorem Yc (T:Txt K mg a):aN P w K mg base (qa P w) 10 a.Jo a.Cb ["self","entry"] (dm K (aD a) 2 EV):=
 MF T.Tz.F Yb λ_ _ _ _ _ _=>(by have:=Yb.nd;exists (Nb (c:= "Match") (az T) (sf T) (Ah T) (by decide) T.yu.b aiy ?_ ?_),(av (EG T) ?_),(kN zaM zaY zaZ kM iY ?_ ?_),(av (mG T) ?_))
noncomputable abbrev Yd:List Str:=["_law_match","_law_entry_here","_law_rule","refused"]
theorem qF:aq Yd ["_law_match","_law_entry_here"] (aj WA):=eW
noncomputable def yC:Fn:=cT Yd (ao (aP 2 (mC (.str "")))
   (ao (xu "Match" "tell" 2 lD (aa 0) (af (aa 1) ak) ["NotLet"] (some 3)
   (aP 2 (Bw ["NotLet"] "rule" (aa 3))))
   (aI (aa 2))))
theorem EW (T:Txt K mg a):aN P w K mg base dJ 11 a.yo a.qw ["_law_match","_law_entry_here"] (dm K (aD a) 2 yC):=
 aU T.yv.F qF λ_ _ _ _ _ _=>(by have:=qF.nd;exists (qu (l:=3) (c:= "Match") (T.eX.M.abf) (qC T) (vH T) (az T) (sf T) (Ah T) (by decide) T.yu.b ?_ ?_ qF.nd (λ_=>?_) rfl rfl),(zL (z8 T) ?_))
noncomputable def jW:Fn:=cT ["_law_match","_law_entry_here","_law_rule","refused"] (ao (aP 2 (mC (.str "")))
   (ao (xu "Book" "tell" 2 EV (aa 0) (af (aa 1) ak) ["NotLet"] (some 3)
   (aP 2 (Bw ["NotLet"] "rule" (aa 3))))
   (aI (aa 2))))
theorem EX (T:Txt K mg a):aN P w K mg base dJ 11 a.yo a.qw ["_law_match","_law_entry_here"] (dm K (aD a) 2 jW):=
 aU T.yv.F qF λ_ _ _ _ _ _=>(by have:=qF.nd;exists (qu (l:=3) (c:= "Book") (T.eX.M.abf) (qC T) (vH T) (dX T) (NW T) (Yc T) (by decide) T.Tz.b ?_ ?_ qF.nd (λ_=>?_) rfl rfl),(zL (z8 T) ?_))
noncomputable abbrev O4:List Str:=["_law_script","_law_rules_here","_law_teams_here","_law_many","_law_match","_law_kept","_law_k","_law_entry_here"]
theorem EY:aq O4 ["_law_script","_law_rules_here","_law_teams_here","_law_many"] (aj WB):=eW
noncomputable def HB:Fn:=lB (cT O4 (ao (aP 4 (mw "Match" 3 qX (af (aa 1) (af (aa 2) ak))))
   (ao (aP 5 (oU ak))
   (ao (qo (tS (af (aa 3) ak)) (bO 6)
   (cP (mB (ai (jh false) (aF "Match" "result" 1 Cz (aa 4) ak) (mC .br)))
   (ao (aP 7 (e_ 4 CH (af (aa 0) (af (ai oW (mC (.int 11)) (aa 6)) (af (aa 2) (af (aa 4) ak))))))
   (cP (mB (ai (cR false) (e_ 2 yC (af (aa 4) (af (aa 7) ak))) (mC (.str ""))))
   (di (rH Ja wg (aa 5) (af (aa 7) ak)))
   aH))
   aH))
   (aI (aa 5))))))
theorem acO (T:Txt K mg a):aN P w K mg base dJ 12 a.BW a.vn ["_law_script","_law_rules_here","_law_teams_here","_law_many"] (dm K (aD a) 4 HB):=
 aN.pure (aU T.W3.F EY λ_ _ _ _ _ _=>(by have:=EY.nd;exists (kP (c:= "Match") (mE T) (vI T) (by decide) (jU T) T.yr.b aA ?_),(jB zbh ?_ ?_ ?_),(o7 T.pB ?_),(fq 6 EY.nd),(aJ (az T) (GO T) (N_ T) (by decide) T.GF.b aA ?_),(cJ (acf T) T.WO ?_),(cJ (EW T) T.yv ?_),(kN zaM zaY zaZ kM iY ?_ ?_)))
noncomputable abbrev aje:List Str:=["self","rules","teams"]
theorem Ye:aq aje ["self","rules","teams"] (aj abR):=eW
noncomputable def O5:Fn:=cT aje (ao (bR ["Book"] "rules" (aa 0) (aa 1))
   (ao (bR ["Book"] "teams" (aa 0) (gq (tR iL (aa 2)) [] 2 (jq 2 (eU (bO 0) (eU (bO 1) oZ))) jr (cK (af (aa 0) (af (bQ qR (af (aa 1) ak)) ak)))))
   (ao (bR ["Book"] "kept" (aa 0) (oU ak))
   (bR ["Book"] "current" (aa 0) (mw "Match" 3 qX (af (aa 1) (af (aa 2) ak)))))))
theorem ajf (T:Txt K mg a):aN P w K mg base dJ 5 a.Eu a.Cc ["self","rules","teams"] (dm K (aD a) 3 O5):=
 aU T.aiP.F Ye λ_ _ _ _ _ _=>(by have:=Ye.nd;exists (aW (EE T) ?_ ?_),(aW (EF T) ?_ ?_),(iH (F:=[]) (T:=["name","players"]) (fr:=[]) (Kp abR (by decide +kernel)) ?_ (λ_ _ _ _ _=>?_) (λ_ _ _ _ _=>?_) (λ_ _ _ _ _=>?_)),(kO (n:=2) ?_),(fq 0 (show (["name","players"]:List Str).Nodup by decide +kernel)),(fq 1 (show (["name","players"]:List Str).Nodup by decide +kernel)),(iQ tQ T.vD zbI ?_),(aW (mG T) ?_ ?_),(aW (EG T) ?_ ?_),(kP (c:= "Match") (mE T) (vI T) (by decide) (jU T) T.yr.b aA ?_))
noncomputable abbrev Yg:List Str:=["_law_script","_law_k","_law_teams_here","_law_entries_here","_law_way","_law_names","_law_name"]
theorem O6:aq Yg ["_law_script","_law_k","_law_teams_here","_law_entries_here"] (aj WC):=eW
noncomputable def CM:Fn:=cT Yg (ao (aP 4 (e_ 3 cG (af (aa 0) (af (aa 1) (af (mC (.int 6)) ak)))))
   (ao (cP (l9 (mB (ai (cR false) (aa 4) (mC (.int 0)))) (mB (ai D8 (bQ fU (af (aa 3) ak)) (mC (.int 0)))))
   (aI (ai bH (aa 3) (e_ 3 cG (af (aa 0) (af (ai bS (aa 1) (mC (.int 1))) (af (bQ fU (af (aa 3) ak)) ak))))))
   aH)
   (ao (cP (mB (ai (cR false) (aa 4) (mC (.int 1))))
   (aI (ai bH (ig (af (cK (af (mC (.str "declare")) ak)) (af (cK (af (mC (.str "close")) ak)) (af (cK (af (mC (.str "follow")) ak)) ak)))) (e_ 3 cG (af (aa 0) (af (ai bS (aa 1) (mC (.int 1))) (af (mC (.int 3)) ak))))))
   aH)
   (ao (aP 5 (ai bS (ai bS (ai bH (ai bH (aa 2) (mC (.int 0))) (mC (.int 1))) (ai bH (ai bH (aa 2) (mC (.int 1))) (mC (.int 1)))) (ig (af (mC (.str "nobodyzz")) ak))))
   (ao (aP 6 (ai bH (aa 5) (e_ 3 cG (af (aa 0) (af (ai bS (aa 1) (mC (.int 1))) (af (bQ fU (af (aa 5) ak)) ak))))))
   (ao (cP (mB (ai (cR false) (aa 4) (mC (.int 2))))
   (aI (ai bH (ig (af (cK (af (mC (.str "in")) (af (aa 6) ak))) (af (cK (af (mC (.str "bowl")) (af (aa 6) ak))) (af (cK (af (mC (.str "hurt")) (af (aa 6) ak))) ak)))) (e_ 3 cG (af (aa 0) (af (ai bS (aa 1) (mC (.int 2))) (af (mC (.int 3)) ak))))))
   aH)
   (aI (e_ 3 CG (af (aa 0) (af (ai bS (aa 1) (mC (.int 3))) (af (cK (af (mC (.str "")) (af (aa 6) (af (aa 6) (af (mC (.str "")) ak))))) ak)))))))))))
theorem O7 (T:Txt K mg a):aN P w K mg base dJ 5 a.BX a.vo ["_law_script","_law_k","_law_teams_here","_law_entries_here"] (dm K (aD a) 4 CM):=
 aU T.NQ.F O6 λ_ _ _ _ _ _=>(by have:=O6.nd;exists (cJ (qD T) T.vE ?_),(cF iE T.iF zaG ?_),(cJ (Ol T) T.Np ?_))
noncomputable abbrev ajg:List Str:=["self","number","count"]
theorem Yh:aq ajg ["self","number","count"] (aj aiB):=eW
noncomputable def JA:Fn:=cT ajg (cP (rG (mB (kH Vv Dk (mC (.int 0)) (aa 1) (aa 2))))
   Mm
   aH)
theorem O8 (T:Txt K mg a):aN P w K mg base dJ 2 a.Jp a.Cd ["self","number","count"] (dm K (aD a) 3 JA):=
 aU T.NR.F Yh λ_ _ _ _ _ _=>(by have:=Yh.nd;exists (tL IW IV ?_ ?_ ?_),Mn)
noncomputable abbrev ajh:List Str:=["self","entries","trial","number","entry","error"]
theorem CN:aq ajh ["self","entries"] (aj aiC):=eW
noncomputable def CO:Fn:=cT ajh (ao (aP 2 (mw "Match" 3 qX (af (aQ ["Book"] "rules" (aa 0)) (af (aQ ["Book"] "teams" (aa 0)) ak))))
   (ao (qo (mEn 0 (af (aa 1) ak)) (jq 2 (eU (bO 3) (eU (bO 4) oZ)))
   (xu "Match" "tell" 2 lD (aa 2) (af (aa 4) ak) ["NotLet"] (some 5)
   (aI (cK (af (aa 3) (af (Bw ["NotLet"] "rule" (aa 5)) ak))))))
   (ao (bR ["Book"] "kept" (aa 0) (aa 1))
   (ao (bR ["Book"] "current" (aa 0) (aa 2))
   (aI (mC .br))))))
theorem O9 (T:Txt K mg a):aN P w K mg base dJ 10 a.Jq a.Cf ["self","entries"] (dm K (aD a) 2 CO):=
 aU T.NS.F CN λ_ _ _ _ _ _=>(by have:=CN.nd;exists (kP (c:= "Match") (mE T) (vI T) (by decide) (jU T) T.yr.b aA ?_),(av (EE T) ?_),(av (EF T) ?_),(jB zbh ?_ ?_ ?_),(zC T.mz ?_),(kO (n:=2) ?_),(fq 3 CN.nd),(fq 4 CN.nd),(qu (l:=5) (c:= "Match") (T.eX.M.abf) (qC T) (vH T) (az T) (sf T) (Ah T) (by decide) T.yu.b ?_ ?_ CN.nd (λ_=>?_) rfl rfl),(zL (z8 T) ?_),(aW (mG T) ?_ ?_),(aW (EG T) ?_ ?_))
noncomputable abbrev aji:List Str:=["self","number","entry"]
theorem Yi:aq aji ["self","number","entry"] (aj aiD):=eW
noncomputable def O_:Fn:=cT aji (ao (di (aF "Book" "need_number" 3 JA (aa 0) (af (aa 1) (af (ai bS (bQ fU (af (aQ ["Book"] "kept" (aa 0)) ak)) (mC (.int 1))) ak))))
   (aI (aF "Book" "retell" 2 CO (aa 0) (af (ai mq (ai bS (wZ lR (aQ ["Book"] "kept" (aa 0)) dG (fY (aa 1))) (ig (af (aa 2) ak))) (wZ lR (aQ ["Book"] "kept" (aa 0)) (fY (aa 1)) dG)) ak))))
theorem ajj (T:Txt K mg a):aN P w K mg base dJ 11 a.Jr a.Cg ["self","number","entry"] (dm K (aD a) 3 O_):=
 aU T.abV.F Yi λ_ _ _ _ _ _=>(by have:=Yi.nd;exists (bf (dX T) (EI T) (O8 T) (by decide) T.NR.b aA ?_ ?_),(cF iE T.iF zaG ?_),(av (mG T) ?_),(bf (dX T) (EJ T) (O9 T) (by decide) T.NS.b aA ?_ ?_),(zv D_ ?_ ?_))
noncomputable abbrev ajk:List Str:=["self","number","entry"]
theorem Yj:aq ajk ["self","number","entry"] (aj aiE):=eW
noncomputable def Pa:Fn:=cT ajk (ao (di (aF "Book" "need_number" 3 JA (aa 0) (af (aa 1) (af (bQ fU (af (aQ ["Book"] "kept" (aa 0)) ak)) ak))))
   (aI (aF "Book" "retell" 2 CO (aa 0) (af (ai mq (ai bS (wZ lR (aQ ["Book"] "kept" (aa 0)) dG (fY (aa 1))) (ig (af (aa 2) ak))) (wZ lR (aQ ["Book"] "kept" (aa 0)) (fY (ai bS (aa 1) (mC (.int 1)))) dG)) ak))))
theorem ajl (T:Txt K mg a):aN P w K mg base dJ 11 a.Js a.Ci ["self","number","entry"] (dm K (aD a) 3 Pa):=
 aU T.abW.F Yj λ_ _ _ _ _ _=>(by have:=Yj.nd;exists (bf (dX T) (EI T) (O8 T) (by decide) T.NR.b aA ?_ ?_),(cF iE T.iF zaG ?_),(av (mG T) ?_),(bf (dX T) (EJ T) (O9 T) (by decide) T.NS.b aA ?_ ?_),(zv D_ ?_ ?_))
noncomputable abbrev ajm:List Str:=["self","number"]
theorem Yk:aq ajm ["self","number"] (aj aiF):=eW
noncomputable def Pb:Fn:=cT ajm (ao (di (aF "Book" "need_number" 3 JA (aa 0) (af (aa 1) (af (bQ fU (af (aQ ["Book"] "kept" (aa 0)) ak)) ak))))
   (aI (aF "Book" "retell" 2 CO (aa 0) (af (ai mq (wZ lR (aQ ["Book"] "kept" (aa 0)) dG (fY (aa 1))) (wZ lR (aQ ["Book"] "kept" (aa 0)) (fY (ai bS (aa 1) (mC (.int 1)))) dG)) ak))))
theorem ajn (T:Txt K mg a):aN P w K mg base dJ 11 a.Jt a.Cj ["self","number"] (dm K (aD a) 2 Pb):=
 aU T.abX.F Yk λ_ _ _ _ _ _=>(by have:=Yk.nd;exists (bf (dX T) (EI T) (O8 T) (by decide) T.NR.b aA ?_ ?_),(cF iE T.iF zaG ?_),(av (mG T) ?_),(bf (dX T) (EJ T) (O9 T) (by decide) T.NS.b aA ?_ ?_),(zv D_ ?_ ?_))
noncomputable abbrev Yl:List Str:=["_law_cells","_law_k","_law_book","_law_teams_here","_law_kept","_law_way","_law_entry_here","_law_at"]
theorem Pc:aq Yl ["_law_cells","_law_k","_law_book","_law_teams_here","_law_kept"] (aj WD):=eW
noncomputable def yD:Fn:=cT Yl (ao (aP 5 (e_ 3 cG (af (aa 0) (af (aa 1) (af (mC (.int 3)) ak)))))
   (ao (aP 6 (e_ 4 CM (af (aa 0) (af (ai bS (aa 1) (mC (.int 1))) (af (aa 3) (af (aa 4) ak))))))
   (ao (cP (Dh (mB (ai (cR false) (aa 5) (mC (.int 0)))) (mB (ai (nQ false) (aa 4) (ig ak))))
   (ao (aP 7 (e_ 3 cG (af (aa 0) (af (ai bS (aa 1) (mC (.int 15))) (af (ai bS (bQ fU (af (aa 4) ak)) (mC (.int 1))) ak)))))
   (aI (cK (af (ai bS (ai bS (wZ lR (aa 4) dG (fY (aa 7))) (ig (af (aa 6) ak))) (wZ lR (aa 4) (fY (aa 7)) dG)) (af (aF "Book" "put_in" 3 O_ (aa 2) (af (aa 7) (af (aa 6) ak))) ak)))))
   aH)
   (ao (aP 7 (e_ 3 cG (af (aa 0) (af (ai bS (aa 1) (mC (.int 15))) (af (bQ fU (af (aa 4) ak)) ak)))))
   (ao (cP (mB (ai (cR false) (aa 5) (mC (.int 1))))
   (aI (cK (af (ai bS (ai bS (wZ lR (aa 4) dG (fY (aa 7))) (ig (af (aa 6) ak))) (wZ lR (aa 4) (fY (ai bS (aa 7) (mC (.int 1)))) dG)) (af (aF "Book" "put_right" 3 Pa (aa 2) (af (aa 7) (af (aa 6) ak))) ak))))
   aH)
   (aI (cK (af (ai bS (wZ lR (aa 4) dG (fY (aa 7))) (wZ lR (aa 4) (fY (ai bS (aa 7) (mC (.int 1)))) dG)) (af (aF "Book" "take_out" 2 Pb (aa 2) (af (aa 7) ak)) ak)))))))))
theorem acP (T:Txt K mg a):aN P w K mg base dJ 12 a.BY a.vp ["_law_cells","_law_k","_law_book","_law_teams_here","_law_kept"] (dm K (aD a) 5 yD):=
 aU T.W4.F Pc λ_ _ _ _ _ _=>(by have:=Pc.nd;exists (cJ (qD T) T.vE ?_),(cJ (O7 T) T.NQ ?_),(kI ah0 ?_ ?_ (yU _)),(cF iE T.iF zaG ?_),(bf (dX T) (ab2 T) (ajj T) (by decide) T.abV.b aA ?_ ?_),(bf (dX T) (ab3 T) (ajl T) (by decide) T.abW.b aA ?_ ?_),(bf (dX T) (ab4 T) (ajn T) (by decide) T.abX.b aA ?_ ?_))
noncomputable abbrev Ym:List Str:=["_law_rules_here","_law_teams_here","_law_entries_here","_law_match","_law_number","_law_entry_here","_law_rule"]
theorem Ai:aq Ym ["_law_rules_here","_law_teams_here","_law_entries_here"] (aj WE):=eW
noncomputable def pH:Fn:=cT Ym (ao (aP 3 (mw "Match" 3 qX (af (aa 0) (af (aa 1) ak))))
   (ao (qo (mEn 0 (af (aa 2) ak)) (jq 2 (eU (bO 4) (eU (bO 5) oZ)))
   (ao (aP 6 (e_ 2 yC (af (aa 3) (af (aa 5) ak))))
   (cP (mB (ai (cR true) (aa 6) (mC (.str ""))))
   (aI (cK (af (aa 3) (af (cK (af (aa 4) (af (aa 6) ak))) ak))))
   aH)))
   (aI (cK (af (aa 3) (af (mC .br) ak))))))
theorem acQ (T:Txt K mg a):aN P w K mg base dJ 12 a.BZ a.vq ["_law_rules_here","_law_teams_here","_law_entries_here"] (dm K (aD a) 3 pH):=
 aU T.W5.F Ai λ_ _ _ _ _ _=>(by have:=Ai.nd;exists (kP (c:= "Match") (mE T) (vI T) (by decide) (jU T) T.yr.b aA ?_),(jB zbh ?_ ?_ ?_),(zC T.mz ?_),(kO (n:=2) ?_),(fq 4 Ai.nd),(fq 5 Ai.nd),(cJ (EW T) T.yv ?_))
noncomputable abbrev Yn:List Str:=["_law_found"]
theorem Pd:aq Yn ["_law_found"] (aj WG):=eW
noncomputable def HC:Fn:=cT Yn (ao (cP (Dh (rG (mB (IZ "tuple" (aa 0)))) (Dh (mB (ai (cR true) (bQ fU (af (aa 0) ak)) (mC (.int 2)))) (rG (mB (IZ "str" (ai bH (aa 0) (mC (.int 1))))))))
   (aI (mC (.bl false)))
   aH)
   (aI (IT (IZ "int" (ai bH (aa 0) (mC (.int 0)))) (Ma (IZ "bool" (ai bH (aa 0) (mC (.int 0))))))))
theorem acR (T:Txt K mg a):aN P w K mg base dJ 2 a.B8 a.vt ["_law_found"] (dm K (aD a) 1 HC):=
 aU T.W6.F Pd λ_ _ _ _ _ _=>(by have:=Pd.nd;exists (zA (u:= "tuple") T.iO T.Tw PyProof.Rows.boot_tuple ?_),(cF iE T.iF zaG ?_),(zA (u:= "str") T.iO T.aiL PyProof.Rows.boot_str ?_),(zA (u:= "int") T.iO T.aiJ PyProof.Rows.boot_int ?_),(D4 ?_),(zA (u:= "bool") T.iO T.abS PyProof.Rows.boot_bool ?_))
noncomputable abbrev ajo:List Str:=["self"]
theorem Yo:aq ajo ["self"] (aj aiG):=eW
noncomputable def Pe:Fn:=cT ajo (aI (bQ qR (af (aQ ["Book"] "kept" (aa 0)) ak)))
theorem ajp (T:Txt K mg a):aN P w K mg base dJ 2 a.Ju a.Ck ["self"] (dm K (aD a) 1 Pe):=
 aU T.abY.F Yo λ_ _ _ _ _ _=>(by have:=Yo.nd;exists (iQ tQ T.vD zbI ?_),(av (mG T) ?_))
noncomputable abbrev Yp:List Str:=["self"]
theorem Pf:aq Yp ["self"] (aj WH):=eW
noncomputable def HD:Fn:=lB (cT Yp (aI (bQ qR (af (aQ ["Match"] "balls_told" (aa 0)) ak))))
theorem acS (T:Txt K mg a):aN P w K mg base dJ 2 a.yq a.vz ["self"] (dm K (aD a) 1 HD):=
 aN.pure (aU T.NT.F Pf λ_ _ _ _ _ _=>(by have:=Pf.nd;exists (iQ tQ T.vD zbI ?_),(av (EA T) ?_)))
noncomputable abbrev Yq:List Str:=["_law_match"]
theorem Pg:aq Yq ["_law_match"] (aj WI):=eW
noncomputable def CQ:Fn:=cT Yq (aI (ig (af (aF "Match" "state" 1 CA (aa 0) ak) (af (aF "Match" "innings" 1 CD (aa 0) ak) (af (aF "Match" "turn" 1 vL (aa 0) ak) (af (aF "Match" "players" 1 CB (aa 0) ak) (af (aF "Match" "result" 1 Cz (aa 0) ak) (af (aF "Match" "log" 1 HD (aa 0) ak) ak))))))))
theorem acT (T:Txt K mg a):aN P w K mg base dJ 7 a.B9 a.vA ["_law_match"] (dm K (aD a) 1 CQ):=
 aU T.W7.F Pg λ_ _ _ _ _ _=>(by have:=Pg.nd;exists (aJ (az T) (GP T) (Ob T) (by decide) T.GG.b aA ?_),(aJ (az T) (GR T) (Oe T) (by decide) T.GI.b aA ?_),(aJ (az T) (GU T) (Oi T) (by decide) T.GK.b aA ?_),(aJ (az T) (GQ T) (Od T) (by decide) T.GH.b aA ?_),(aJ (az T) (GO T) (N_ T) (by decide) T.GF.b aA ?_),(aJ (az T) (Ug T) (acS T) (by decide) T.NT.b aA ?_))
noncomputable abbrev ajq:List Str:=["self","own","entry"]
theorem Ph:aq ajq ["self"] (aj aiH):=eW
noncomputable def Ui:Fn:=cT ajq (ao (aP 1 (mw "Match" 3 qX (af (aQ ["Book"] "rules" (aa 0)) (af (aQ ["Book"] "teams" (aa 0)) ak))))
   (ao (qo (tR iL (aQ ["Book"] "kept" (aa 0))) (bO 2)
   (di (aF "Match" "tell" 2 lD (aa 1) (af (aa 2) ak))))
   (aI (aa 1))))
theorem ajr (T:Txt K mg a):aN P w K mg base dJ 10 a.Jv a.Cm ["self"] (dm K (aD a) 1 Ui):=
 aU T.abZ.F Ph λ_ _ _ _ _ _=>(by have:=Ph.nd;exists (kP (c:= "Match") (mE T) (vI T) (by decide) (jU T) T.yr.b aA ?_),(av (EE T) ?_),(av (EF T) ?_),(jB zbh ?_ ?_ ?_),(av (mG T) ?_),(fq 2 Ph.nd),(bf (az T) (sf T) (Ah T) (by decide) T.yu.b Ej ?_ ?_))
noncomputable abbrev Yr:List Str:=["_law_script","_law_cells","_law_rules_here","_law_teams_here","_law_kept","_law_book","_law_entry_here","_law_k","_law_tried","_law_found","_law_match","_law_due","_law_more","_law_rule"]
theorem mH:aq Yr ["_law_script"] (aj WJ):=eW
noncomputable def Pj:Fn:=cT Yr (ao (aP 1 (e_ 2 GX (af (aa 0) (af (mC (.int 40)) ak))))
   (ao (aP 2 (e_ 1 GZ (af (aa 1) ak)))
   (ao (aP 3 (e_ 2 G0 (af (aa 1) (af (ai bH (aa 2) (mC (.int 5))) ak))))
   (ao (aP 4 (e_ 4 HB (af (aa 1) (af (aa 2) (af (aa 3) (af (bQ w9 (af (mC (.int 60)) (af (ai oW (mC (.int 3)) (bQ fU (af (aa 1) ak))) ak))) ak))))))
   (ao (aP 5 (mw "Book" 3 O5 (af (aa 2) (af (aa 3) ak))))
   (ao (qo (tR iL (aa 4)) (bO 6)
   (di (aF "Book" "tell" 2 EV (aa 5) (af (aa 6) ak))))
   (ao (qo (tS (af (mC (.int 6)) ak)) (bO 7)
   (ao (Ml (e_ 5 yD (af (aa 1) (af (ai bS (mC (.int 3000)) (ai oW (mC (.int 20)) (aa 7))) (af (aa 5) (af (aa 3) (af (aa 4) ak)))))) (jq 2 (eU (bO 8) (eU (bO 9) oZ))))
   (ao (Ml (e_ 3 pH (af (aa 2) (af (aa 3) (af (aa 8) ak)))) (jq 2 (eU (bO 10) (eU (bO 11) oZ))))
   (ao (cP (mB (ai (jh false) (aa 11) (mC .br)))
   (aP 4 (aa 8))
   (cP (rG (mB (e_ 1 HC (af (aa 9) ak))))
   (aI (mC (.bl false)))
   aH))
   (ao (cP (Dh (mB (ai (cR true) (aa 9) (aa 11))) (mB (ai (cR true) (aF "Book" "entries" 1 Pe (aa 5) ak) (aa 4))))
   (aI (mC (.bl false)))
   aH)
   (ao (aP 10 (ai bH (e_ 3 pH (af (aa 2) (af (aa 3) (af (aa 4) ak)))) (mC (.int 0))))
   (ao (cP (mB (ai (cR true) (e_ 1 CQ (af (aF "Book" "match" 1 Ui (aa 5) ak) ak)) (e_ 1 CQ (af (aa 10) ak))))
   (aI (mC (.bl false)))
   aH)
   (ao (aP 12 (e_ 4 CM (af (aa 1) (af (ai bS (mC (.int 3400)) (ai oW (mC (.int 20)) (aa 7))) (af (aa 3) (af (aa 4) ak))))))
   (ao (aP 13 (e_ 2 yC (af (aa 10) (af (aa 12) ak))))
   (ao (cP (mB (ai (cR true) (e_ 2 jW (af (aa 5) (af (aa 12) ak))) (aa 13)))
   (aI (mC (.bl false)))
   aH)
   (cP (mB (ai (cR false) (aa 13) (mC (.str ""))))
   (aP 4 (ai bS (aa 4) (ig (af (aa 12) ak))))
   aH)))))))))))
   (aI (ai (cR false) (aF "Book" "entries" 1 Pe (aa 5) ak) (aa 4))))))))))
theorem acU (T:Txt K mg a):aN P w K mg base dJ 13 a.B_ a.nR ["_law_script"] (dm K (aD a) 1 Pj):=
 aU T.NU.F mH λ_ _ _ _ _ _=>(by have:=mH.nd;exists (cJ (ab7 T) T.WK ?_),(cJ (ab9 T) T.WM ?_),(cJ (acd T) T.WN ?_),(cJ (acO T) T.W3 ?_),(cF aaG T.aiK PyProof.Rows.boot_min ?_),(cF iE T.iF zaG ?_),(kP (c:= "Book") (TH T) (ajf T) (by decide) (NV T) T.aiP.b aA ?_),(jB zbh ?_ ?_ ?_),(fq 6 mH.nd),(bf (dX T) (NW T) (Yc T) (by decide) T.Tz.b Ej ?_ ?_),(o7 T.pB ?_),(fq 7 mH.nd),(cJ (acP T) T.W4 ?_),(kO (n:=2) ?_),(fq 8 mH.nd),(fq 9 mH.nd),(cJ (acQ T) T.W5 ?_),(fq 10 mH.nd),(fq 11 mH.nd),(cJ (acR T) T.W6 ?_),(aJ (dX T) (ab5 T) (ajp T) (by decide) T.abY.b aA ?_),(cJ (acT T) T.W7 ?_),(aJ (dX T) (ab6 T) (ajr T) (by decide) T.abZ.b aA ?_),(cJ (O7 T) T.NQ ?_),(cJ (EW T) T.yv ?_),(cJ (EX T) T.yv ?_))
end
theorem Aj (c:Nat):Str.length ⟨#[c]⟩=1:=rfl
theorem Ak (a b:Str):(a++b).length=a.length+b.length:=by
 have:(a++b).cps.toList.length=a.cps.toList.length+b.cps.toList.length:=by rw[LC,zag]
 simpa[Str.length] using this
theorem qG (l:List Tr)(m:Nat):qi l none (some (m:Int))=l.take m:=by
 unfold qi;rw[HT.AV,HT.yY,List.drop_zero,Nat.sub_zero];by_cases h:m<=l.length
 ·rw[zcv h]
 ·rw[zcL (by omega),zbs (zah _),zbs (by omega)]
theorem Uj (l:List Tr)(i j:Nat)(h:i<=j):qi l (some (i:Int)) (some (j:Int))=(l.take j).drop i:=by
 unfold qi;simp only[HT.yY];rw[List.drop_take];by_cases h1:i<=l.length
 ·rw[zcv h1]
  by_cases h2:j<=l.length
  ·rw[zcv h2]
  ·rw[zcL (by omega)]
   rw[zbs (by simp),zbs (by simp;omega)]
 ·rw[zcg (as:=l) (i:=i) (by omega),zcg (as:=l) (i:=min i l.length) (by rw[zcL (by omega)];exact zah _)]
  simp
section
variable {x0 x1 x2 x3 x4 x5 x6 x7 x8 x9 gF gz v:Tr}
noncomputable abbrev mr (x0 x1 x2 x3 x4 x5 x6:Tr):List (Str×Tr):=[("rules",x0),("sides",x1),("known",x2),("played",x3),("followed",x4),("closed",x5),("balls_told",x6)]
noncomputable abbrev ir (x0 x1 x2 x3 x4 x5 x6 x7 x8 x9 gF gz:Tr):List (Str×Tr):=[("side",x0),("facing",x1),("other",x2),("bowler",x3),("ahead",x4),("total",x5),("wickets",x6),("overs",x7),("balls",x8),("ending",x9),("outs",gF),("spells",gz)]
theorem acV:bY ("rules" : Str) v ([]:List (Str×Tr))=([("rules",v)]:List (Str×Tr)):=by kernel_rfl
theorem acW:aV ("rules" : Str) (mr x0 x1 x2 x3 x4 x5 x6)=some x0:=by kernel_rfl
theorem acX:bY ("sides" : Str) v ([("rules",x0)]:List (Str×Tr))=([("rules",x0),("sides",v)]:List (Str×Tr)):=by kernel_rfl
theorem acY:aV ("sides" : Str) (mr x0 x1 x2 x3 x4 x5 x6)=some x1:=by kernel_rfl
theorem acZ:bY ("sides" : Str) v (mr x0 x1 x2 x3 x4 x5 x6)=([("rules",x0),("sides",v),("known",x2),("played",x3),("followed",x4),("closed",x5),("balls_told",x6)]:List (Str×Tr)):=by kernel_rfl
theorem ac0:bY ("known" : Str) v ([("rules",x0),("sides",x1)]:List (Str×Tr))=([("rules",x0),("sides",x1),("known",v)]:List (Str×Tr)):=by kernel_rfl
theorem ac1:aV ("known" : Str) (mr x0 x1 x2 x3 x4 x5 x6)=some x2:=by kernel_rfl
theorem ac2:bY ("played" : Str) v ([("rules",x0),("sides",x1),("known",x2)]:List (Str×Tr))=([("rules",x0),("sides",x1),("known",x2),("played",v)]:List (Str×Tr)):=by kernel_rfl
theorem ac3:aV ("played" : Str) (mr x0 x1 x2 x3 x4 x5 x6)=some x3:=by kernel_rfl
theorem ac4:bY ("followed" : Str) v ([("rules",x0),("sides",x1),("known",x2),("played",x3)]:List (Str×Tr))=([("rules",x0),("sides",x1),("known",x2),("played",x3),("followed",v)]:List (Str×Tr)):=by kernel_rfl
theorem ac5:aV ("followed" : Str) (mr x0 x1 x2 x3 x4 x5 x6)=some x4:=by kernel_rfl
theorem ac6:bY ("followed" : Str) v (mr x0 x1 x2 x3 x4 x5 x6)=([("rules",x0),("sides",x1),("known",x2),("played",x3),("followed",v),("closed",x5),("balls_told",x6)]:List (Str×Tr)):=by kernel_rfl
theorem ac7:bY ("closed" : Str) v ([("rules",x0),("sides",x1),("known",x2),("played",x3),("followed",x4)]:List (Str×Tr))=([("rules",x0),("sides",x1),("known",x2),("played",x3),("followed",x4),("closed",v)]:List (Str×Tr)):=by kernel_rfl
theorem ac8:aV ("closed" : Str) (mr x0 x1 x2 x3 x4 x5 x6)=some x5:=by kernel_rfl
theorem ac9:bY ("closed" : Str) v (mr x0 x1 x2 x3 x4 x5 x6)=([("rules",x0),("sides",x1),("known",x2),("played",x3),("followed",x4),("closed",v),("balls_told",x6)]:List (Str×Tr)):=by kernel_rfl
theorem ada:bY ("balls_told" : Str) v ([("rules",x0),("sides",x1),("known",x2),("played",x3),("followed",x4),("closed",x5)]:List (Str×Tr))=([("rules",x0),("sides",x1),("known",x2),("played",x3),("followed",x4),("closed",x5),("balls_told",v)]:List (Str×Tr)):=by kernel_rfl
theorem adb:aV ("balls_told" : Str) (mr x0 x1 x2 x3 x4 x5 x6)=some x6:=by kernel_rfl
theorem ade:aV ("going" : Str) (mr x0 x1 x2 x3 x4 x5 x6)=none:=by kernel_rfl
theorem adf:aV ("state" : Str) (mr x0 x1 x2 x3 x4 x5 x6)=none:=by kernel_rfl
theorem adg:aV ("most_innings" : Str) (mr x0 x1 x2 x3 x4 x5 x6)=none:=by kernel_rfl
theorem adh:aV ("total_of" : Str) (mr x0 x1 x2 x3 x4 x5 x6)=none:=by kernel_rfl
theorem adi:aV ("lead_of" : Str) (mr x0 x1 x2 x3 x4 x5 x6)=none:=by kernel_rfl
theorem adj:aV ("is_done" : Str) (mr x0 x1 x2 x3 x4 x5 x6)=none:=by kernel_rfl
theorem adk:aV ("next_side" : Str) (mr x0 x1 x2 x3 x4 x5 x6)=none:=by kernel_rfl
theorem adl:aV ("may_follow" : Str) (mr x0 x1 x2 x3 x4 x5 x6)=none:=by kernel_rfl
theorem adm:aV ("side_to_start" : Str) (mr x0 x1 x2 x3 x4 x5 x6)=none:=by kernel_rfl
theorem adn:aV ("start_refusal" : Str) (mr x0 x1 x2 x3 x4 x5 x6)=none:=by kernel_rfl
theorem ado:aV ("swap_refusal" : Str) (mr x0 x1 x2 x3 x4 x5 x6)=none:=by kernel_rfl
theorem adp:aV ("follow_refusal" : Str) (mr x0 x1 x2 x3 x4 x5 x6)=none:=by kernel_rfl
theorem adq:aV ("refusal" : Str) (mr x0 x1 x2 x3 x4 x5 x6)=none:=by kernel_rfl
theorem ads:aV ("begin" : Str) (mr x0 x1 x2 x3 x4 x5 x6)=none:=by kernel_rfl
theorem adt:aV ("play_ball" : Str) (mr x0 x1 x2 x3 x4 x5 x6)=none:=by kernel_rfl
theorem adu:aV ("swap_player" : Str) (mr x0 x1 x2 x3 x4 x5 x6)=none:=by kernel_rfl
theorem adv:aV ("close" : Str) (mr x0 x1 x2 x3 x4 x5 x6)=none:=by kernel_rfl
theorem adw:aV ("do" : Str) (mr x0 x1 x2 x3 x4 x5 x6)=none:=by kernel_rfl
theorem adx:aV ("ending_due" : Str) (mr x0 x1 x2 x3 x4 x5 x6)=none:=by kernel_rfl
theorem ady:aV ("tell" : Str) (mr x0 x1 x2 x3 x4 x5 x6)=none:=by kernel_rfl
theorem adz:aV ("innings" : Str) (mr x0 x1 x2 x3 x4 x5 x6)=none:=by kernel_rfl
theorem adA:aV ("turn" : Str) (mr x0 x1 x2 x3 x4 x5 x6)=none:=by kernel_rfl
theorem adB:aV ("players" : Str) (mr x0 x1 x2 x3 x4 x5 x6)=none:=by kernel_rfl
theorem adC:aV ("result" : Str) (mr x0 x1 x2 x3 x4 x5 x6)=none:=by kernel_rfl
theorem adD:aV ("log" : Str) (mr x0 x1 x2 x3 x4 x5 x6)=none:=by kernel_rfl
theorem Pk:(("Match" : Str)∈(["Match"]:List Str))=True:=eq_true (zau.mpr rfl)
theorem adE:bY ("side" : Str) v ([]:List (Str×Tr))=([("side",v)]:List (Str×Tr)):=by kernel_rfl
theorem adF:aV ("side" : Str) (ir x0 x1 x2 x3 x4 x5 x6 x7 x8 x9 gF gz)=some x0:=by kernel_rfl
theorem adG:bY ("facing" : Str) v ([("side",x0)]:List (Str×Tr))=([("side",x0),("facing",v)]:List (Str×Tr)):=by kernel_rfl
theorem adH:aV ("facing" : Str) (ir x0 x1 x2 x3 x4 x5 x6 x7 x8 x9 gF gz)=some x1:=by kernel_rfl
theorem adI:bY ("facing" : Str) v (ir x0 x1 x2 x3 x4 x5 x6 x7 x8 x9 gF gz)=([("side",x0),("facing",v),("other",x2),("bowler",x3),("ahead",x4),("total",x5),("wickets",x6),("overs",x7),("balls",x8),("ending",x9),("outs",gF),("spells",gz)]:List (Str×Tr)):=by kernel_rfl
theorem adJ:bY ("other" : Str) v ([("side",x0),("facing",x1)]:List (Str×Tr))=([("side",x0),("facing",x1),("other",v)]:List (Str×Tr)):=by kernel_rfl
theorem adK:aV ("other" : Str) (ir x0 x1 x2 x3 x4 x5 x6 x7 x8 x9 gF gz)=some x2:=by kernel_rfl
theorem adL:bY ("other" : Str) v (ir x0 x1 x2 x3 x4 x5 x6 x7 x8 x9 gF gz)=([("side",x0),("facing",x1),("other",v),("bowler",x3),("ahead",x4),("total",x5),("wickets",x6),("overs",x7),("balls",x8),("ending",x9),("outs",gF),("spells",gz)]:List (Str×Tr)):=by kernel_rfl
theorem adM:bY ("bowler" : Str) v ([("side",x0),("facing",x1),("other",x2)]:List (Str×Tr))=([("side",x0),("facing",x1),("other",x2),("bowler",v)]:List (Str×Tr)):=by kernel_rfl
theorem adN:aV ("bowler" : Str) (ir x0 x1 x2 x3 x4 x5 x6 x7 x8 x9 gF gz)=some x3:=by kernel_rfl
theorem adO:bY ("bowler" : Str) v (ir x0 x1 x2 x3 x4 x5 x6 x7 x8 x9 gF gz)=([("side",x0),("facing",x1),("other",x2),("bowler",v),("ahead",x4),("total",x5),("wickets",x6),("overs",x7),("balls",x8),("ending",x9),("outs",gF),("spells",gz)]:List (Str×Tr)):=by kernel_rfl
theorem adP:bY ("ahead" : Str) v ([("side",x0),("facing",x1),("other",x2),("bowler",x3)]:List (Str×Tr))=([("side",x0),("facing",x1),("other",x2),("bowler",x3),("ahead",v)]:List (Str×Tr)):=by kernel_rfl
theorem adQ:aV ("ahead" : Str) (ir x0 x1 x2 x3 x4 x5 x6 x7 x8 x9 gF gz)=some x4:=by kernel_rfl
theorem adR:bY ("ahead" : Str) v (ir x0 x1 x2 x3 x4 x5 x6 x7 x8 x9 gF gz)=([("side",x0),("facing",x1),("other",x2),("bowler",x3),("ahead",v),("total",x5),("wickets",x6),("overs",x7),("balls",x8),("ending",x9),("outs",gF),("spells",gz)]:List (Str×Tr)):=by kernel_rfl
theorem adS:bY ("total" : Str) v ([("side",x0),("facing",x1),("other",x2),("bowler",x3),("ahead",x4)]:List (Str×Tr))=([("side",x0),("facing",x1),("other",x2),("bowler",x3),("ahead",x4),("total",v)]:List (Str×Tr)):=by kernel_rfl
theorem adT:aV ("total" : Str) (ir x0 x1 x2 x3 x4 x5 x6 x7 x8 x9 gF gz)=some x5:=by kernel_rfl
theorem adU:bY ("total" : Str) v (ir x0 x1 x2 x3 x4 x5 x6 x7 x8 x9 gF gz)=([("side",x0),("facing",x1),("other",x2),("bowler",x3),("ahead",x4),("total",v),("wickets",x6),("overs",x7),("balls",x8),("ending",x9),("outs",gF),("spells",gz)]:List (Str×Tr)):=by kernel_rfl
theorem adV:bY ("wickets" : Str) v ([("side",x0),("facing",x1),("other",x2),("bowler",x3),("ahead",x4),("total",x5)]:List (Str×Tr))=([("side",x0),("facing",x1),("other",x2),("bowler",x3),("ahead",x4),("total",x5),("wickets",v)]:List (Str×Tr)):=by kernel_rfl
theorem adW:aV ("wickets" : Str) (ir x0 x1 x2 x3 x4 x5 x6 x7 x8 x9 gF gz)=some x6:=by kernel_rfl
theorem adX:bY ("wickets" : Str) v (ir x0 x1 x2 x3 x4 x5 x6 x7 x8 x9 gF gz)=([("side",x0),("facing",x1),("other",x2),("bowler",x3),("ahead",x4),("total",x5),("wickets",v),("overs",x7),("balls",x8),("ending",x9),("outs",gF),("spells",gz)]:List (Str×Tr)):=by kernel_rfl
theorem adY:bY ("overs" : Str) v ([("side",x0),("facing",x1),("other",x2),("bowler",x3),("ahead",x4),("total",x5),("wickets",x6)]:List (Str×Tr))=([("side",x0),("facing",x1),("other",x2),("bowler",x3),("ahead",x4),("total",x5),("wickets",x6),("overs",v)]:List (Str×Tr)):=by kernel_rfl
theorem adZ:aV ("overs" : Str) (ir x0 x1 x2 x3 x4 x5 x6 x7 x8 x9 gF gz)=some x7:=by kernel_rfl
theorem ad0:bY ("overs" : Str) v (ir x0 x1 x2 x3 x4 x5 x6 x7 x8 x9 gF gz)=([("side",x0),("facing",x1),("other",x2),("bowler",x3),("ahead",x4),("total",x5),("wickets",x6),("overs",v),("balls",x8),("ending",x9),("outs",gF),("spells",gz)]:List (Str×Tr)):=by kernel_rfl
theorem ad1:bY ("balls" : Str) v ([("side",x0),("facing",x1),("other",x2),("bowler",x3),("ahead",x4),("total",x5),("wickets",x6),("overs",x7)]:List (Str×Tr))=([("side",x0),("facing",x1),("other",x2),("bowler",x3),("ahead",x4),("total",x5),("wickets",x6),("overs",x7),("balls",v)]:List (Str×Tr)):=by kernel_rfl
theorem ad2:aV ("balls" : Str) (ir x0 x1 x2 x3 x4 x5 x6 x7 x8 x9 gF gz)=some x8:=by kernel_rfl
theorem ad3:bY ("balls" : Str) v (ir x0 x1 x2 x3 x4 x5 x6 x7 x8 x9 gF gz)=([("side",x0),("facing",x1),("other",x2),("bowler",x3),("ahead",x4),("total",x5),("wickets",x6),("overs",x7),("balls",v),("ending",x9),("outs",gF),("spells",gz)]:List (Str×Tr)):=by kernel_rfl
theorem ad4:bY ("ending" : Str) v ([("side",x0),("facing",x1),("other",x2),("bowler",x3),("ahead",x4),("total",x5),("wickets",x6),("overs",x7),("balls",x8)]:List (Str×Tr))=([("side",x0),("facing",x1),("other",x2),("bowler",x3),("ahead",x4),("total",x5),("wickets",x6),("overs",x7),("balls",x8),("ending",v)]:List (Str×Tr)):=by kernel_rfl
theorem ad5:aV ("ending" : Str) (ir x0 x1 x2 x3 x4 x5 x6 x7 x8 x9 gF gz)=some x9:=by kernel_rfl
theorem ad6:bY ("ending" : Str) v (ir x0 x1 x2 x3 x4 x5 x6 x7 x8 x9 gF gz)=([("side",x0),("facing",x1),("other",x2),("bowler",x3),("ahead",x4),("total",x5),("wickets",x6),("overs",x7),("balls",x8),("ending",v),("outs",gF),("spells",gz)]:List (Str×Tr)):=by kernel_rfl
theorem Uk:bY ("outs" : Str) v ([("side",x0),("facing",x1),("other",x2),("bowler",x3),("ahead",x4),("total",x5),("wickets",x6),("overs",x7),("balls",x8),("ending",x9)]:List (Str×Tr))=([("side",x0),("facing",x1),("other",x2),("bowler",x3),("ahead",x4),("total",x5),("wickets",x6),("overs",x7),("balls",x8),("ending",x9),("outs",v)]:List (Str×Tr)):=by kernel_rfl
theorem Ul:aV ("outs" : Str) (ir x0 x1 x2 x3 x4 x5 x6 x7 x8 x9 gF gz)=some gF:=by kernel_rfl
theorem Um:bY ("outs" : Str) v (ir x0 x1 x2 x3 x4 x5 x6 x7 x8 x9 gF gz)=([("side",x0),("facing",x1),("other",x2),("bowler",x3),("ahead",x4),("total",x5),("wickets",x6),("overs",x7),("balls",x8),("ending",x9),("outs",v),("spells",gz)]:List (Str×Tr)):=by kernel_rfl
theorem Uo:bY ("spells" : Str) v ([("side",x0),("facing",x1),("other",x2),("bowler",x3),("ahead",x4),("total",x5),("wickets",x6),("overs",x7),("balls",x8),("ending",x9),("outs",gF)]:List (Str×Tr))=([("side",x0),("facing",x1),("other",x2),("bowler",x3),("ahead",x4),("total",x5),("wickets",x6),("overs",x7),("balls",x8),("ending",x9),("outs",gF),("spells",v)]:List (Str×Tr)):=by kernel_rfl
theorem Up:aV ("spells" : Str) (ir x0 x1 x2 x3 x4 x5 x6 x7 x8 x9 gF gz)=some gz:=by kernel_rfl
theorem Uq:bY ("spells" : Str) v (ir x0 x1 x2 x3 x4 x5 x6 x7 x8 x9 gF gz)=([("side",x0),("facing",x1),("other",x2),("bowler",x3),("ahead",x4),("total",x5),("wickets",x6),("overs",x7),("balls",x8),("ending",x9),("outs",gF),("spells",v)]:List (Str×Tr)):=by kernel_rfl
theorem ad7:aV ("stands" : Str) (ir x0 x1 x2 x3 x4 x5 x6 x7 x8 x9 gF gz)=none:=by kernel_rfl
theorem ad8:aV ("has_gap" : Str) (ir x0 x1 x2 x3 x4 x5 x6 x7 x8 x9 gF gz)=none:=by kernel_rfl
theorem ad9:aV ("has_left" : Str) (ir x0 x1 x2 x3 x4 x5 x6 x7 x8 x9 gF gz)=none:=by kernel_rfl
theorem aea:aV ("change_ends" : Str) (ir x0 x1 x2 x3 x4 x5 x6 x7 x8 x9 gF gz)=none:=by kernel_rfl
theorem aeb:aV ("leave" : Str) (ir x0 x1 x2 x3 x4 x5 x6 x7 x8 x9 gF gz)=none:=by kernel_rfl
theorem aec:aV ("come_in" : Str) (ir x0 x1 x2 x3 x4 x5 x6 x7 x8 x9 gF gz)=none:=by kernel_rfl
theorem aed:aV ("bowl_next" : Str) (ir x0 x1 x2 x3 x4 x5 x6 x7 x8 x9 gF gz)=none:=by kernel_rfl
theorem aee:aV ("out_by" : Str) (ir x0 x1 x2 x3 x4 x5 x6 x7 x8 x9 gF gz)=none:=by kernel_rfl
theorem aef:aV ("fall" : Str) (ir x0 x1 x2 x3 x4 x5 x6 x7 x8 x9 gF gz)=none:=by kernel_rfl
theorem aeg:aV ("count_fair" : Str) (ir x0 x1 x2 x3 x4 x5 x6 x7 x8 x9 gF gz)=none:=by kernel_rfl
theorem aeh:aV ("play" : Str) (ir x0 x1 x2 x3 x4 x5 x6 x7 x8 x9 gF gz)=none:=by kernel_rfl
theorem aei:aV ("rename" : Str) (ir x0 x1 x2 x3 x4 x5 x6 x7 x8 x9 gF gz)=none:=by kernel_rfl
theorem EZ:(("Innings" : Str)∈(["Innings"]:List Str))=True:=eq_true (zau.mpr rfl)
end
def fx:=jp @acV<|jp @acW<|jp @acX<|jp @acY<|jp @acZ<|jp @ac0<|jp @ac1<|jp @ac2<|jp @ac3<|jp @ac4<|jp @ac5<|jp @ac6<|jp @ac7<|jp @ac8<|jp @ac9<|jp @ada<|jp @adb<|jp @Pk<|jp @ade<|jp @adf<|jp @adg<|jp @adh<|jp @adi<|jp @adj<|jp @adk<|jp @adl<|jp @adm<|jp @adn<|jp @ado<|jp @adp<|jp @adq<|jp @ads<|jp @adt<|jp @adu<|jp @adv<|jp @adw<|jp @adx<|jp @ady<|jp @adz<|jp @adA<|jp @adB<|jp @adC<|jp @adD<|jp @adE<|jp @adF<|jp @adG<|jp @adH<|jp @adI<|jp @adJ<|jp @adK<|jp @adL<|jp @adM<|jp @adN<|jp @adO<|jp @adP<|jp @adQ<|jp @adR<|jp @adS<|jp @adT<|jp @adU<|jp @adV<|jp @adW<|jp @adX<|jp @adY<|jp @adZ<|jp @ad0<|jp @ad1<|jp @ad2<|jp @ad3<|jp @ad4<|jp @ad5<|jp @ad6<|jp @Uk<|jp @Ul<|jp @Um<|jp @Uo<|jp @Up<|jp @Uq<|jp @EZ<|jp @ad7<|jp @ad8<|jp @ad9<|jp @aea<|jp @aeb<|jp @aec<|jp @aed<|jp @aee<|jp @aef<|jp @aeg<|jp @aeh<|jp @aei<|@SM
noncomputable def aB (t0 t1:Str)(p0 p1:List Str):Tr:=.ls [.tp [.str t0,.ls (p0.map .str)],.tp [.str t1,.ls (p1.map .str)]]
structure U where
 o:Int
 v:Int
 s:Int
 w:Int
 n:Int
 d:Int
 i:Int
 f:Int
noncomputable def U.t (u:U):Tr:=.tp [.int u.o,.int u.v,.int u.s,.int u.w,.int u.n,.int u.d,.int u.i,.int u.f]
structure I where
 b9:Int
 nA:Str
 vN:Str
 vX:Str
 Ys:Str
 CS:Int
 wk:Int
 ov:Int
 ba:Int
 en:Str
 outs:List Str
 gG:List (Str×Int)
structure M where
 ru:U
 t0:Str
 t1:Str
 p0:List Str
 p1:List Str
 kn:List Str
 pl:List I
 Yt:Bool
 clo:Bool
 gK:List Tr
structure L3 where
 i:Nat
 o:Nat
 s:Nat
structure Ly where
 a:Nat
 k:Nat
 p:Nat
 l:Nat
 cs:List L3
noncomputable def iS (x:I)(c:L3):List (Str×Tr):=[("side",.int x.b9),("facing",.str x.nA),("other",.str x.vN),("bowler",.str x.vX),("ahead",.str x.Ys),("total",.int x.CS),("wickets",.int x.wk),("overs",.int x.ov),("balls",.int x.ba),("ending",.str x.en),("outs",.hd c.o),("spells",.hd c.s)]
noncomputable def g_ (l:List Str):List (dI×Tr):=l.map λk=>(.inr k,.bl true)
noncomputable def sj (l:List (Str×Int)):List (dI×Tr):=l.map λp=>(.inr p.1,.int p.2)
structure gS (S:Cs) (x:I) (c:L3):Prop where
 i:S[c.i]? = some (.dZ "Innings" (iS x c))
 o:S[c.o]? = some (.jn (g_ x.outs))
 s:S[c.s]? = some (.jn (sj x.gG))
structure Dj (c:L3):Prop where
 io:c.i≠c.o
 is:c.i≠c.s
 os:c.o≠c.s
noncomputable def jX (S:Cs)(x:I)(c:L3):Cs:=((S.set c.i (.dZ "Innings" (iS x c))).set c.o (.jn (g_ x.outs))).set c.s (.jn (sj x.gG))
theorem aK {S:Cs}{n:Nat}{c:Ce}(h:S[n]? = some c):n<S.length:=(zab.mp h).1
theorem bZ {S:Cs}{n:Nat}{c:Ce}(h:n<S.length):(S.set n c)[n]? = some c:=zaz h
theorem cU {S:Cs}{n k:Nat}{c:Ce}(h:¬ n=k):(S.set n c)[k]? = S[k]?:= zax h
theorem eL {S:Cs}{n:Nat}{c d:Ce}:(S.set n c).set n d=S.set n d:=List.set_set ..
theorem kZ {S:Cs}{x y:I}{c:L3}(h:gS S x c)(d:Dj c):gS (jX S y c) y c where
 i:=by
  unfold jX;rw[cU d.is.symm,cU d.io.symm,bZ (aK h.i)]
 o:=by
  unfold jX;rw[cU d.os.symm,bZ (by rw[zcP];exact aK h.o)]
 s:=by
  unfold jX;rw[bZ (by rw[zcP,zcP];exact aK h.s)]
theorem ng {S:Cs}{x y:I}{c:L3}(d:Dj c):jX (jX S x c) y c=jX S y c:=by
 unfold jX;rw[zdm (i:=c.s) (j:=c.i) _ _ d.is.symm,zdm (i:=c.o) (j:=c.i) _ _ d.io.symm,eL,zdm (i:=c.s) (j:=c.o) _ _ d.os.symm,eL,eL]
theorem lE {S:Cs}{x y:I}{c:L3}(h:gS S x c)(d:Dj c)(ho:y.outs=x.outs)(hs:y.gG=x.gG):S.set c.i (.dZ "Innings" (iS y c))=jX S y c:=by
 unfold jX;rw[ho,hs,i7 (i:=c.o) (by rw[cU d.io];exact h.o),i7 (i:=c.s) (by rw[cU d.is];exact h.s)]
theorem gi {x:Str}{l:List Str}:Kn (.str x) (l.map .str)=decide (x∈l):=by
 rw[zbg];simp only[Kn,zcA,zcJ,Function.comp,Qn,beq_iff_eq,decide_eq_true_eq];exact⟨λ⟨y,h,e⟩=>e ▸ h,λh=>⟨x,h,rfl⟩⟩
theorem in2:Kn (.str x) [.str a,.str b]=decide (x=a\/x=b):=by
 rw[zbg];simp only[Kn,zcb,zey,Qn,zef,zdJ,decide_eq_true_eq,beq_iff_eq];exact⟨λh=>h.imp zcE zcE,λh=>h.imp zcE zcE⟩
theorem in3:Kn (.str x) [.str a,.str b,.str c]=decide (x=a\/x=b\/x=c):=by
 rw[zbg];simp only[Kn,zcb,zey,Qn,zef,zdJ,decide_eq_true_eq,beq_iff_eq];exact⟨λh=>h.imp zcE (·.imp zcE zcE),λh=>h.imp zcE (·.imp zcE zcE)⟩
theorem cH:dW (.str s)=true:=rfl
theorem gj {l:List Str}:(l.map Tr.str).all dW=true:=by
 rw[zaK];intro x hx;obtain⟨s,_,rfl⟩:=zbl.mp hx;rfl
theorem jY:∀{l:List Str},(aV (.inr k) (g_ l)).isSome=decide (k∈l)
 |[]=>rfl
 |a::r=>by
  unfold g_;rw[rO];unfold aV;by_cases h:a=k
  ·subst h;rw[if_pos rfl];simp
  ·rw[if_neg (λz=>h (zdd z))]
   have:=jY (k:=k) (l:=r)
   unfold g_ at this;rw[this];simp[zan,zbc h]
noncomputable def I.eN (x:I)(n:Str):Bool:=decide (n=x.nA\/n=x.vN)
noncomputable def I.Yu (x:I):Bool:=x.eN ""
noncomputable def I.left (x:I)(ps:List Str):Bool:=ps.any λn=>!decide (n∈x.outs) && !x.eN n
noncomputable def I.swap (x:I):I:={x with nA:=x.vN,vN:=x.nA}
noncomputable def I.gB (x:I)(n:Str):I:=if x.nA=n then { x with nA:= "" } else { x with vN:= "" }
noncomputable def I.CT (x:I)(n:Str):I:=if x.nA="" then {x with nA:=n} else {x with vN:=n}
section
variable {S:Cs}{x:I}{c:L3}
theorem jZ (h:gS S x c)(n:Str):pG [.hd c.i,.str n] S = .ok (.bl (x.eN n)) S:=by
 unfold pG I.eN;have hi:=h.i;unfold iS at hi;simp?[fx,hi,zay,zaN,cH,zaU,in2]
theorem Pn (h:gS S x c):yy [.hd c.i] S = .ok (.bl x.Yu) S:=by
 unfold yy I.Yu;have e:=jZ h ""
 have hi:=h.i;unfold iS at hi;simp?[fx,hi,e]
theorem E1 (h:gS S x c)(d:Dj c):yz [.hd c.i] S = .ok .br (jX S x.swap c):=by
 unfold yz;rw[<-lE (y:=x.swap) h d rfl rfl];have hl:=aK h.i;have hi:=h.i;unfold iS at *
 simp?[fx,hi,hl,bZ,eL,I.swap]
theorem HE (h:gS S x c)(d:Dj c)(n:Str):CJ [.hd c.i,.str n] S = .ok .br (jX S (x.gB n) c):=by
 unfold CJ I.gB;have hl:=aK h.i;have hi:=h.i;by_cases hn:x.nA=n
 ·rw[if_pos hn,<-lE (x:=x) (y:={ x with nA:= "" }) h d rfl rfl]
  unfold iS at *
  simp?[fx,hi,hl,bZ,eL,hn]
 ·rw[if_neg hn,<-lE (x:=x) (y:={ x with vN:= "" }) h d rfl rfl]
  unfold iS at *
  simp?[fx,hi,hl,bZ,eL,hn]
theorem aej (h:gS S x c)(d:Dj c)(n:Str):Ht [.hd c.i,.str n] S = .ok .br (jX S (x.CT n) c):=by
 unfold Ht I.CT;have hl:=aK h.i;have hi:=h.i;by_cases hn:x.nA=""
 ·rw[if_pos hn,<-lE (x:=x) (y:={x with nA:=n}) h d rfl rfl]
  unfold iS at *
  simp?[fx,hi,hl,bZ,eL,hn]
 ·rw[if_neg hn,<-lE (x:=x) (y:={x with vN:=n}) h d rfl rfl]
  unfold iS at *
  simp?[fx,hi,hl,bZ,eL,hn]
end
structure B where
 k:Str
 r:Int
 rp:Bool
 w:Str
 who:Str
 en:Str
noncomputable def B.t (b:B):Tr:=.tp [.str "ball",.str b.k,.int b.r,.bl b.rp,.str b.w,.str b.who,.str b.en]
noncomputable def dw:Option Str->Tr|none=>.br|some s=>.str s
noncomputable def HF (k:Str)(r:Int):Bool:=if r=4 then true else if r=6 then decide (k="bat" \/ k="no") else false
noncomputable def Po (k:Str)(r:Int)(rp:Bool)(w:Str):Bool:=if w="" then true else if rp=true then false else if w="run" then true else if r≠0 then false else if w="stumped" \/ w="hit" then decide (k="bat" \/ k="wide") else decide (k="bat")
noncomputable def B.yE (b:B):Option Str:=if (b.rp && !HF b.k b.r)=true then some "rope" else if Po b.k b.r b.rp b.w=true then none else some "way"
theorem aek (k:Str)(r:Int)(S:Cs):G6 [.str k,.int r] S = .ok (.bl (HF k r)) S:=by
 unfold G6 HF;simp?[zay,zaN,cH,zaU,in2]
theorem aju (k:Str)(r:Int)(rp:Bool)(w:Str)(S:Cs):G7 [.str k,.int r,.bl rp,.str w] S = .ok (.bl (Po k r rp w)) S:=by
 unfold G7 Po;by_cases h1:w=""
 ·simp?[h1]
 ·cases rp with
  |true=>simp?[h1]
  |false =>
   by_cases h2:w="run"
   ·simp?[fx,h2]
   ·by_cases h3:r=0
    ·by_cases h4:w="stumped" \/ w="hit"
     ·simp?[fx,h1,h2,h3,h4,zay,zaN,cH,zaU,in2,ne_eq]
     ·simp?[fx,h1,h2,h3,h4,zay,zaN,cH,zaU,in2,ne_eq]
    ·simp?[fx,h1,h2,h3,ne_eq]
theorem Ur (b:B)(S:Cs):G8 [b.t] S = .ok (dw b.yE) S:=by
 unfold G8 B.t B.yE;have e1:=λS=>aek b.k b.r S
 have e2:=λS=>aju b.k b.r b.rp b.w S
 obtain⟨k,r,rp,w,who,en⟩:=b;simp only at e1 e2 ⊢
 cases rp with
 |false =>
  cases h2:Po k r false w<;>simp?[e1,e2,h2,dw,zcZ]
 |true =>
  cases h1:HF k r
  ·simp?[e1,e2,h1,dw,zdn]
  ·cases h2:Po k r true w<;>simp?[e1,e2,h1,h2,dw,zdn]
structure By where
 E2:Int
 ext:Int
 cha:Int
noncomputable def Us (u:U)(k:Str)(r:Int):By:=if k="bat" then ⟨r,0,r⟩ else if k="wide" then ⟨0,u.w+r,u.w+r⟩ else if k="no" then ⟨r,u.n,u.n+r⟩ else if k="nobye" then ⟨0,u.n+r,u.n⟩ else ⟨0,r,0⟩
noncomputable def qZ (k:Str):Bool:=decide (k="bat" \/ k="bye" \/ k="leg")
noncomputable def nY (r:Int)(rp:Bool):Bool:=if r % 2=1 then !rp else false
noncomputable def Yv (w:Str):Bool:=!decide (w="" \/ w="run")
noncomputable def B.Ut (u:U)(b:B):Int:=(Us u b.k b.r).E2+(Us u b.k b.r).ext
noncomputable def B.JB (u:U)(b:B):Tr:=.tp [.int (b.Ut u),.int (Us u b.k b.r).E2,.int (Us u b.k b.r).ext,.int (Us u b.k b.r).cha,.bl (qZ b.k),.bl (!decide (b.k="wide")),.bl (nY b.r b.rp),.bl (Yv b.w)]
theorem ant (u:U)(k:Str)(r:Int)(S:Cs):Hi [u.t,.str k,.int r] S = .ok (.tp [.int (Us u k r).E2,.int (Us u k r).ext,.int (Us u k r).cha]) S:=by
 unfold Hi U.t Us;by_cases h1:k="bat"
 ·simp?[fx,h1]
 ·by_cases h2:k="wide"
  ·simp?[fx,h2]
  ·by_cases h3:k="no"
   ·simp?[fx,h3]
   ·by_cases h4:k="nobye"
    ·simp?[fx,h4]
    ·simp?[fx,h1,h2,h3,h4]
theorem ael (u:U)(b:B)(S:Cs):Hj [u.t,b.t] S = .ok (b.JB u) S:=by
 unfold Hj B.JB B.Ut B.t qZ nY Yv;have e1:=λS=>ant u b.k b.r S
 unfold U.t at *
 simp?[e1,zay,zaN,cH,zaU,in2,in3]
noncomputable def I.DX (x:I)(b:B):Str:=if b.w="run" then b.who else if b.w="" then "" else x.nA
section
variable {S:Cs}{x:I}{c:L3}
theorem Uu (h:gS S x c)(b:B):Hl [.hd c.i,b.t] S = .ok (.str (x.DX b)) S:=by
 unfold Hl I.DX B.t;have hi:=h.i;unfold iS at hi;by_cases h1:b.w="run"
 ·simp?[fx,hi,h1]
 ·by_cases h2:b.w="" <;> simp?[fx,hi,h1,h2]
end
noncomputable def gC (l:List Str)(n:Str):List Str:=if n∈l then l else l++[n]
noncomputable def ja (l:List (Str×Int))(n:Str):Int:=match l with|[]=>0 | (k,v)::r=>if k=n then v else ja r n
noncomputable def mJ (l:List (Str×Int))(n:Str)(v:Int):List (Str×Int):=if (l.any λp=>decide (p.1=n))=true then l.map (λp=>if p.1=n then (p.1,v) else p) else l++[(n,v)]
theorem CU:lA (g_ l) (.inr n) (.bl true)=g_ (gC l n):=by
 unfold lA gC;have h1:((g_ l).any λkv=>decide (kv.1=(.inr n:dI)))=decide (n∈l):=by
  unfold g_;rw[zcA,zbg,zcJ];simp only[Function.comp,decide_eq_true_eq];exact⟨λ⟨x,h,e⟩=>zdd e ▸ h,λh=>⟨n,h,rfl⟩⟩
 rw[h1];by_cases h:n∈l
 ·rw[if_pos (decide_eq_true h),if_pos h]
  unfold g_;rw[zbt];apply zbY
  intro x hx;simp only[Function.comp];split<;>rfl
 ·rw[if_neg (by simpa using h),if_neg h]
  unfold g_;rw[zaE];rfl
theorem sr:∀{l:List (Str×Int)},(aV (.inr n) (sj l)).getD (.int 0) = .int (ja l n)
 |[]=>rfl
 | (k,v)::r=>by
  unfold sj;rw[rO];unfold aV ja;by_cases h:k=n
  ·subst h;rw[if_pos rfl,if_pos rfl];rfl
  ·rw[if_neg (λz=>h (zdd z)),if_neg h]
   exact sr (n:=n) (l:=r)
theorem HG:lA (sj l) (.inr n) (.int v)=sj (mJ l n v):=by
 unfold lA mJ;have h1:((sj l).any λkv=>decide (kv.1=(.inr n:dI)))=l.any λp=>decide (p.1=n):=by
  unfold sj;rw[zcA];congr 1
  funext p
  simp only[Function.comp,Sum.inr.injEq]
 rw[h1];split
 ·unfold sj
  rw[zbt,zbt];apply zbY
  intro x hx;simp only[Function.comp,Sum.inr.injEq];split<;>rfl
 ·unfold sj
  rw[zaE];rfl
theorem Pp:(g_ l).length=l.length:=by unfold g_;simp
theorem Uv:(sj l).length=l.length:=by unfold sj;simp
noncomputable def I.yF (x:I)(n:Str):I:={x with vX:=n,gG:=mJ x.gG n (ja x.gG n+1)}
noncomputable def I.wm (x:I)(n e:Str):I:=
 let y:=({x with outs:=gC x.outs n,wk:=x.wk+1}:I).gB n
 if (if y.nA="" then "strike" else "other")=e then y else y.swap
noncomputable def I.wo (x:I)(o:Int):I:=if o<=x.ba+1 then { x with ov:=x.ov+1,ba:=0,nA:=x.vN,vN:=x.nA,Ys:=x.vX,vX:= "" } else {x with ba:=x.ba+1}
noncomputable def I.pI (u:U)(x:I)(b:B):I:=
 let x1:I:={x with CS:=x.CS+b.Ut u}
 let x2:=if nY b.r b.rp=true then x1.swap else x1
 let x3:=if x.DX b="" then x2 else x2.wm (x.DX b) (if b.w="run" then b.en else "strike")
 if qZ b.k=true then x3.wo u.o else x3
section
variable {S:Cs}{x:I}{c:L3}
theorem Uw (h:gS S x c)(d:Dj c)(n:Str)(hl:x.gG.length<=1000):Hu [.hd c.i,.str n] S = .ok .br (jX S (x.yF n) c):=by
 unfold Hu;have hi:=h.i;have hs:=h.s;have Vr:=aK h.i;have hz:(x.gG.length<sizeLine)=True:=iZ (by omega)
 have e:((S.set c.i (.dZ "Innings" (iS {x with vX:=n} c))).set c.s (.jn (sj (mJ x.gG n (ja x.gG n+1)))))=jX S (x.yF n) c:=by
  unfold jX I.yF;rw[i7 (i:=c.o) (l:=S.set c.i _) (by rw[cU d.io];exact h.o)]
  rfl
 unfold iS at hi e;simp only[↓bp,bx,simprocAttr,fx,hi,hs,Vr,bZ,eL,cU d.is,d.is,d.is.symm,ne_eq,zbC,sr,HG,Uv,hz] at e ⊢
 rw[e]
theorem aem (h:gS S x c)(d:Dj c)(n en:Str)(hl:x.outs.length<=1000):Ho [.hd c.i,.str n,.str en] S = .ok .br (jX S (x.wm n en) c):=by
 unfold Ho;have hi:=h.i;have ho:=h.o;have hol:=aK h.o;have hz:(x.outs.length<sizeLine)=True:=iZ (by omega)
 generalize hy:({x with outs:=gC x.outs n,wk:=x.wk+1}:I)=y
 have e:((S.set c.o (.jn (g_ (gC x.outs n)))).set c.i (.dZ "Innings" (iS {x with wk:=x.wk+1} c)))=jX S y c:=by
  rw[<-hy];unfold jX;rw[zdm _ _ d.io,i7 (i:=c.s) (by rw[cU d.is,cU d.os];exact h.s)]
  rfl
 have hY:=kZ (y:=y) h d
 have e1:=HE hY d n;rw[ng d] at e1;have hZ:=kZ (y:=y.gB n) h d
 have hzi:=hZ.i;have e2:=E1 hZ d;rw[ng d] at e2;have Pq:=hY.i;have ef:x.wm n en=if (if (y.gB n).nA="" then "strike" else "other")=en then y.gB n else (y.gB n).swap:=by unfold I.wm;rw[hy]
 rw[ef];generalize y.gB n=z at *
 unfold iS at hi e hzi Pq;simp only[↓bp,bx,simprocAttr,fx,hi,ho,hol,bZ,eL,cU d.io.symm,d.io,d.io.symm,ne_eq,CU,Pp,hz] at e ⊢
 simp?[fx,e,e1,Pq,hzi];by_cases hf:z.nA=""
 ·by_cases he:en="strike"
  ·subst he;simp?[fx,hf]
  ·have Pr:¬ "strike"=en:=λq=>he q.symm
   simp?[fx,hf,Pr,hzi,e2]
 ·by_cases he:en="other"
  ·subst he;simp?[fx,hf]
  ·have Pr:¬ "other"=en:=λq=>he q.symm
   simp?[fx,hf,Pr,hzi,e2]
theorem aen (h:gS S x c)(d:Dj c)(o:Int):Hq [.hd c.i,.int o] S = .ok .br (jX S (x.wo o) c):=by
 unfold Hq I.wo;have hi:=h.i;have Vr:=aK h.i;by_cases ho:o<=x.ba+1
 ·rw[if_pos ho]
  generalize hy:({x with ov:=x.ov+1,ba:=0}:I)=y
  have e:=lE (y:=y) h d (by rw[<-hy]) (by rw[<-hy])
  have hY:=kZ (y:=y) h d
  have e1:=E1 hY d;rw[ng d] at e1;have Pq:=hY.i;have hZ:=kZ (y:=y.swap) h d
  have hZi:=hZ.i;have hZl:=aK hZ.i;have e2:=lE (y:={ y.swap with Ys:=y.vX,vX:= "" }) hZ d rfl rfl
  rw[ng d] at e2;subst hy;unfold iS at hi e Pq hZi e2;simp only[I.swap] at e1 hZi hZl e2 ⊢
  have vW:¬ x.ba+1<o:=by omega
  simp?[fx,hi,Vr,bZ,eL,ho,ge_iff_le,e,e1,Pq,hZi,hZl,e2]
 ·rw[if_neg ho]
  have e:=lE (y:={x with ba:=x.ba+1}) h d rfl rfl
  have Pq:=(kZ (y:={x with ba:=x.ba+1}) h d).i
  unfold iS at hi e Pq;simp?[fx,hi,Vr,bZ,eL,ho,ge_iff_le,e,Pq]
theorem aep (h:gS S x c)(d:Dj c)(u:U)(b:B)(hl:x.outs.length<=1000):Hr [.hd c.i,u.t,b.t] S = .ok (.str (x.DX b)) (jX S (x.pI u b) c):=by
 have e1:=ael u b S;have e2:=Uu h b;have hi:=h.i;have e3:=lE (y:=({x with CS:=x.CS+b.Ut u}:I)) h d rfl rfl
 obtain⟨y,hy⟩:∃y:I,y = {x with CS:=x.CS+b.Ut u}:=⟨_,rfl⟩
 obtain⟨z,hz⟩:∃z,z=if nY b.r b.rp=true then y.swap else y:=⟨_,rfl⟩
 obtain⟨w,hw⟩:∃w,w=if x.DX b="" then z else z.wm (x.DX b) (if b.w="run" then b.en else "strike"):=⟨_,rfl⟩
 have hp:x.pI u b=if qZ b.k=true then w.wo u.o else w:=by
  unfold I.pI;simp only[hw,hz,hy]
 have hzo:z.outs=x.outs:=by rw[hz,hy];split<;>rfl
 have hY:=kZ (y:=y) h d
 have hZ:=kZ (y:=z) h d
 have hW:=kZ (y:=w) h d
 have e4:=E1 hY d;have e5:=λn en=>aem hZ d n en (by rw[hzo];exact hl)
 have e6:=aen hW d u.o;rw[ng d] at e4 e6;simp only[ng d] at e5;have Pq:=hY.i;have hZi:=hZ.i;have hWi:=hW.i;have g0:∀S,bH (b.JB u) (.int 0) S = .ok (.int (b.Ut u)) S:=λ_=>rfl
 have g6:∀S,bH (b.JB u) (.int 6) S = .ok (.bl (nY b.r b.rp)) S:=λ_=>rfl
 have g4:∀S,bH (b.JB u) (.int 4) S = .ok (.bl (qZ b.k)) S:=λ_=>rfl
 have gu:∀S,bH u.t (.int 0) S = .ok (.int u.o) S:=λ_=>rfl
 have gw:∀S,bH b.t (.int 4) S = .ok (.str b.w) S:=λ_=>rfl
 have ge:∀S,bH b.t (.int 6) S = .ok (.str b.en) S:=λ_=>rfl
 rw[hp];unfold iS at hi e3 Pq hZi hWi;dsimp only at e3
 rw[<-hy] at e3;clear hp hzo hY hZ hW hy hl
 unfold Hr;generalize x.DX b=o at *
 generalize b.JB u=sT at *
 generalize u.t=uT at *
 generalize b.t=bT at *
 generalize b.Ut u=gt at *
 generalize hI1:cP (mB (ai bH (aa 3) (mC (.int 6)))) _ _=I1
 generalize hI2:cP (mB (ai (cR true) (aa 4) (mC (.str "")))) _ _=I2
 generalize hI3:cP (mB (ai bH (aa 3) (mC (.int 4)))) _ _=I3
 have k1:I1 [some (.hd c.i),some uT,some bT,some sT,some (.str o)] (jX S y c) = .nx [some (.hd c.i),some uT,some bT,some sT,some (.str o)] (jX S z c):=by
  rw[<-hI1,hz];cases hcr:nY b.r b.rp<;>rw[hcr] at g6<;>simp?[fx,↓g6,Pq,e4]
 have k2:I2 [some (.hd c.i),some uT,some bT,some sT,some (.str o)] (jX S z c) = .nx [some (.hd c.i),some uT,some bT,some sT,some (.str o)] (jX S w c):=by
  rw[<-hI2,hw];by_cases ho:o=""
  ·simp?[fx,ho]
  ·by_cases hr:b.w="run"
   ·rw[hr] at gw
    simp?[fx,ho,hr,↓gw,↓ge,hZi,e5]
   ·simp?[fx,ho,hr,↓gw,hZi,e5]
 have k3:I3 [some (.hd c.i),some uT,some bT,some sT,some (.str o)] (jX S w c) = .nx [some (.hd c.i),some uT,some bT,some sT,some (.str o)] (jX S (if qZ b.k=true then w.wo u.o else w) c):=by
  rw[<-hI3];cases hf:qZ b.k<;>rw[hf] at g4<;>simp?[fx,↓g4,↓gu,hWi,e6]
 generalize jX S (if qZ b.k=true then w.wo u.o else w) c=SF at *
 simp?[fx,e1,e2,hi,↓g0,e3,k1,k2,k3]
end
inductive bg where
 |dg (t f o b:Str)|pJ (b:B)|q8 (n:Str)|pK (n:Str)|pL (n:Str)|swap (a b:Str)|fO|gU|lF
noncomputable def bg.t:bg->Tr
 |.dg t f o b=>.tp [.str "start",.str t,.str f,.str o,.str b]
 |.pJ b=>b.t
 |.q8 n=>.tp [.str "in",.str n]
 |.pK n=>.tp [.str "bowl",.str n]
 |.pL n=>.tp [.str "hurt",.str n]
 |.swap a b=>.tp [.str "swap",.str a,.str b]
 |.fO=>.tp [.str "declare"]
 |.gU=>.tp [.str "follow"]
 |.lF=>.tp [.str "close"]
noncomputable def nF (l:List Str):Tr:=.ls (l.map .str)
noncomputable def I.nh (x:I)(b:B):Option Str:=if x.Yu=true then some "empty" else if x.vX="" then some "bowler" else match b.yE with|some f=>some f|none=>if b.w="run" /\ x.eN b.who=false then some "who" else none
noncomputable def I.CV (x:I)(E2:List Str)(n:Str):Option Str:=if x.Yu=false then some "full" else if n∉E2 then some "team" else if n∈x.outs then some "out" else if x.eN n=true then some "there" else none
noncomputable def I.pM (x:I)(Pw:List Str)(sp:Int)(n:Str):Option Str:=if x.vX ≠ "" then some "bowling" else if n∉Pw then some "team" else if n=x.Ys then some "twice" else if 0<sp/\sp<=ja x.gG n then some "spell" else none
noncomputable def I.mK (x:I)(u:U)(E2 Pw:List Str):bg->Option Str
 |.pJ b=>x.nh b
 |.q8 n=>x.CV E2 n
 |.pK n=>x.pM Pw u.s n
 |.pL n=>if x.eN n=true then none else some "who"
 |_=>none
theorem CW {α:Type}(f:α -> Bool):∀l:List α,qT (l.map λa=>.bl (f a))=some (l.map f)
 |[]=>rfl
 |a::r=>by rw[rO];unfold qT;rw[CW f r];rfl
theorem CY {α:Type}(f:α -> Int):∀l:List α,qS (l.map λa=>.int (f a))=some (l.map f)
 |[]=>rfl
 |a::r=>by rw[rO];unfold qS;rw[CY f r];rfl
section
variable {S:Cs}{x:I}{c:L3}
theorem JC (h:gS S x c)(b:B):G9 [.hd c.i,b.t] S = .ok (dw (x.nh b)) S:=by
 unfold G9 I.nh;have e1:=Pn h;have e2:=Ur b S;have e3:=λn=>jZ h n
 have hi:=h.i;unfold iS at hi;cases hg:x.Yu
 ·by_cases hb:x.vX=""
  ·simp?[fx,hi,e1,hg,hb,dw]
  ·cases hf:b.yE with
   |some f=>unfold B.t at *;simp?[fx,hi,e1,hg,hb,e2,hf,dw]
   |none =>
    by_cases hr:b.w="run"
    ·unfold B.t at *
     rw[hr] at e2;cases hs:x.eN b.who<;>simp?[fx,hi,e1,hg,hb,e2,hf,dw,hr,e3,hs]
    ·unfold B.t at *;simp?[fx,hi,e1,hg,hb,e2,hf,dw,hr]
 ·simp?[fx,hi,e1,hg,dw]
theorem Ux (h:gS S x c)(E2:List Str)(n:Str):G_ [.hd c.i,nF E2,.str n] S = .ok (dw (x.CV E2 n)) S:=by
 unfold G_ I.CV nF;have e1:=Pn h;have e3:=λn=>jZ h n
 have hi:=h.i;have ho:=h.o;unfold iS at hi;cases hg:x.Yu
 ·simp?[fx,hi,e1,hg,dw]
 ·by_cases hb:n∈E2
  ·by_cases hn:n∈x.outs
   ·simp?[fx,hi,ho,e1,hg,hb,hn,gj,cH,gi,jY,dw]
   ·cases hs:x.eN n<;>simp?[fx,hi,ho,e1,e3,hg,hb,hn,hs,gj,cH,gi,jY,dw]
  ·simp?[fx,hi,e1,hg,hb,gj,cH,gi,dw]
theorem JD (h:gS S x c)(Pw:List Str)(sp:Int)(n:Str):Hf [.hd c.i,nF Pw,.int sp,.str n] S = .ok (dw (x.pM Pw sp n)) S:=by
 unfold Hf I.pM nF;have hi:=h.i;have hs:=h.s;unfold iS at hi;by_cases hw:x.vX=""
 ·by_cases hb:n∈Pw
  ·by_cases ha:n=x.Ys
   ·subst ha;simp?[fx,hi,hw,hb,gj,cH,gi,dw,ne_eq]
   ·by_cases h0:0<sp
    ·by_cases h1:sp<=ja x.gG n<;>simp?[fx,hi,hs,hw,hb,ha,h0,h1,gj,cH,gi,sr,dw,ne_eq]
    ·simp?[fx,hi,hs,hw,hb,ha,h0,gj,cH,gi,sr,dw,ne_eq]
  ·simp?[fx,hi,hw,hb,gj,cH,gi,dw,ne_eq]
 ·simp?[fx,hi,hw,dw,ne_eq]
noncomputable def bg.yG:bg->Bool|.pJ _=>true|.q8 _=>true|.pK _=>true|.pL _=>true|.fO=>true|_=>false
theorem Px (h:gS S x c)(u:U)(E2 Pw:List Str)(e:bg)(he:e.yG=true):Hg [.hd c.i,u.t,nF E2,nF Pw,e.t] S = .ok (dw (x.mK u E2 Pw e)) S:=by
 unfold Hg;have e1:=λb=>JC h b
 have e2:=λn=>Ux h E2 n
 have e3:=λsp n=>JD h Pw sp n
 have e4:=λn=>jZ h n
 have hi:=h.i;unfold iS at hi;cases e with
 |pJ b =>
  have e1:=e1 b;unfold bg.t I.mK;generalize dw (x.nh b)=z at *
  unfold B.t at *
  simp?[fx,e1]
 |q8 n =>
  have e2:=e2 n;unfold bg.t I.mK;simp?[fx,e2]
 |pK n =>
  have e3:=λsp=>e3 sp n
  unfold bg.t I.mK U.t;simp?[fx,e3]
 |pL n =>
  have e4:=e4 n;unfold bg.t I.mK;cases hs:x.eN n<;>simp?[fx,hi,e4,hs,dw]
 |fO=>unfold bg.t I.mK;simp?[fx,dw]
 |dg _ _ _ _=>cases he
 |swap _ _=>cases he
 |gU=>cases he
 |lF=>cases he
theorem aeq (h:gS S x c)(ps:List Str)(hl:ps.length<=1000):Hz [.hd c.i,nF ps] S = .ok (.bl (x.left ps)) S:=by
 unfold Hz nF;have e3:=λn=>jZ h n
 have hi:=h.i;have ho:=h.o;unfold iS at hi;have hz:(ps.length<=sizeLine)=True:=aZ (by omega)
 simp only[Br,gA,aI,bQ,af,gq,tR,aa,ak,iL,Gb,R.e9,R.fm,jC,rO,zV,GB,Dm,zU,Es,Nat.reduceAdd,Nat.reduceSub,zbX,zbq,zaT,zaD,Option.join,zbv,id_eq,zaw];rw[qp [] (λτ=>∃v,τ=[some (.hd c.i),v]) (λt=>match t with|.str n=>.bl (!decide (n∈x.outs) && !x.eN n)|_=>.br) (λ_=>true) (ps.map .str) _ [] ⟨_,rfl⟩ ?_ (by simp;omega)]
 ·have e:((ps.map Tr.str).filter (λ_=>true)).map (λt=>match t with|.str n=>(.bl (!decide (n∈x.outs) && !x.eN n):Tr)|_=>.br)=ps.map λn=>.bl (!decide (n∈x.outs) && !x.eN n):=by
   rw[zcY.mpr (λ_ _=>rfl),zbt];rfl
  rw[Dm,e];simp only[R.e9,R7,Be,CW,R.fm,tT,zae,hz,ite_true];unfold I.left;rw[zcA];rfl
 ·rintro t ht τ ⟨v,rfl⟩
  obtain⟨n,hn,rfl⟩:=zbl.mp ht;refine⟨[some (.hd c.i),some (.str n)],⟨_,rfl⟩,rfl,rfl,λ_=>?_⟩
  by_cases hno:n∈x.outs
  ·simp?[fx,hi,ho,jY,hno,zcZ]
  ·cases hs:x.eN n<;>simp?[fx,hi,ho,jY,hno,e3,hs,zdn]
end
noncomputable def k8 (c:L3):List Nat:=[c.i,c.o,c.s]
noncomputable def fp (y:Ly):List Nat:=y.a::y.k::y.p::y.l::y.cs.flatMap k8
noncomputable def mF (m:M)(y:Ly):List (Str×Tr):=[("rules",m.ru.t),("sides",aB m.t0 m.t1 m.p0 m.p1),("known",.hd y.k),("played",.hd y.p),("followed",.bl m.Yt),("closed",.bl m.clo),("balls_told",.hd y.l)]
structure c9 (S:Cs) (m:M) (y:Ly):Prop where
 a:S[y.a]? = some (.dZ "Match" (mF m y))
 k:S[y.k]? = some (.bM (m.kn.map .str))
 p:S[y.p]? = some (.bM (y.cs.map λc=>.hd c.i))
 l:S[y.l]? = some (.bM m.gK)
 len:y.cs.length=m.pl.length
 q8:∀(j:Nat) x c,m.pl[j]? = some x->y.cs[j]? = some c->gS S x c
 nd:(fp y).Nodup
noncomputable def h_ (m:M):Option I:=match m.pl.getLast? with|some x=>if x.en="" then some x else none|none=>none
noncomputable def Uy (m:M)(s:Int):Int:=((m.pl.filter λx=>decide (x.b9=s)).map (·.CS)).sum
noncomputable def lG (m:M)(s:Int):Int:=Uy m s - Uy m (1 - s)
noncomputable def f_ (m:M):Int:=match m.pl.getLast? with|some x=>x.b9|none=>0
noncomputable def lH (m:M):Bool:=if m.clo=true then true else if (h_ m).isSome=true then false else if m.pl.length=3/\2 * m.ru.i=4 then decide (lG m (f_ m)<0) else decide (2 * m.ru.i<=m.pl.length)
theorem jb {m:M}{y:Ly}(hl:y.cs.length=m.pl.length):(m.pl=[]/\y.cs=[])\/∃fR x ci c,m.pl=fR++[x]/\y.cs=ci++[c]/\ci.length=fR.length:=by
 rcases zcj m.pl with h|⟨fR,x,h⟩
 ·exact .inl ⟨h,by rw[h] at hl;simpa using hl⟩
 ·rcases zcj y.cs with h2|⟨ci,c,h2⟩
  ·rw[h,h2] at hl;simp at hl
  ·refine .inr ⟨fR,x,ci,c,by simpa using h,by simpa using h2,?_⟩
   rw[h,h2] at hl;simpa using hl
theorem mL {α:Type}(l:List α)(a:α):iz (l++[a]) (-1)=some a:=by
 unfold iz AA;rw[if_neg (by decide),zag,zaR]
 rw[if_pos (by omega)]
 simp only[zbv];rw[show ((-1:Int)+((l.length+1:Nat):Int)).toNat=l.length by omega]
 simp
theorem gb {α:Type}(l:List α)(a:α):(l++[a])[l.length]? = some a:=by simp
section
variable {S:Cs}{m:M}{y:Ly}
theorem c9.qH (h:c9 S m y)(e1:m.pl=fR++[x])(e2:y.cs=ci++[c])(e3:ci.length=fR.length):gS S x c:=h.q8 fR.length x c (by rw[e1,gb]) (by rw[e2,<-e3,gb])
theorem Yw {α β:Type}{f:α -> List β}:∀{l:List α},(l.flatMap f).Nodup->∀c∈l,(f c).Nodup
 |[],_,c,h=>absurd h (by simp)
 |a::r,h,c,hc=>by
  rw[zdt] at h;have h':=zch.mp h;rcases zan.mp hc with rfl|hc
  ·exact h'.1
  ·exact Yw h'.2.1 c hc
theorem CZ (h:(fp y).Nodup)(hc:c∈y.cs):Dj c/\c.i≠y.a/\c.i≠y.k/\c.i≠y.p/\c.i≠y.l/\c.o≠y.a/\c.o≠y.k/\c.o≠y.p/\c.o≠y.l/\c.s≠y.a/\c.s≠y.k/\c.s≠y.p/\c.s≠y.l:=by
 unfold fp at h;simp only[zby,zan,zbm,not_or,not_exists,not_and] at h;obtain⟨⟨_,_,_,ha⟩,⟨_,_,hk⟩,⟨_,hp⟩,hl,hn⟩:=h
 have q:∀n∈k8 c,n≠y.a/\n≠y.k/\n≠y.p/\n≠y.l:=λn hn=>⟨λz=>ha c hc (z ▸ hn),λz=>hk c hc (z ▸ hn),λz=>hp c hc (z ▸ hn),λz=>hl c hc (z ▸ hn)⟩
 have d:(k8 c).Nodup:=by
  exact Yw hn c hc
 unfold k8 at d q;simp only[zby,zan,zaL,or_false,not_or] at d;obtain⟨a1,a2,a3,a4⟩:=q c.i (by simp)
 obtain⟨b1,b2,b3,b4⟩:=q c.o (by simp)
 obtain⟨c1,c2,c3,c4⟩:=q c.s (by simp)
 exact⟨⟨d.1.1,d.1.2,d.2.1⟩,a1,a2,a3,a4,b1,b2,b3,b4,c1,c2,c3,c4⟩
noncomputable def Py (m:M)(y:Ly):Tr:=match m.pl.getLast?,y.cs.getLast? with|some x,some c=>if x.en="" then .hd c.i else .br|_,_=>.br
theorem fP (h:c9 S m y)(hs:m.pl.length<=1000):i_ [.hd y.a] S = .ok (Py m y) S:=by
 unfold i_ Py;have ha:=h.a;have hp:=h.p;have hz:(m.pl.length<=sizeLine)=True:=aZ (by omega)
 unfold mF at ha;rcases jb h.len with⟨e1,e2⟩|⟨fR,x,ci,c,e1,e2,e3⟩
 ·rw[e1,e2]
  rw[e2] at hp;simp?[fx,ha,hp,List.getLast?_nil]
 ·have hi:=(h.qH e1 e2 e3).i
  rw[e1,e2];rw[e2,zaE,rO,zV] at hp;have hz:(ci.length+1<=sizeLine)=True:=aZ (by rw[e1] at hs;simp at hs;omega)
  unfold iS at hi;have hn:¬ ((ci.length:Int)+1=0):=by omega
  by_cases he:x.en="" <;> simp?[fx,ha,hp,hi,he,hz,mL,List.getLast?_append,List.getLast?_singleton,Option.some_or,zag,zae,zbA,zbN,hn,Int.ofNat_one]
end
structure Sz (m:M) (n:Nat):Prop where
 pl:m.pl.length<=n
 kn:m.kn.length<=n
 gK:m.gK.length<=n
 p0:m.p0.length<=11
 p1:m.p1.length<=11
 outs:∀x∈m.pl,x.outs.length<=n
 gG:∀x∈m.pl,x.gG.length<=n
 b9:∀x∈m.pl,x.b9=0\/x.b9=1
noncomputable def jc (m:M)(s:Int):Str:=if s=0 then m.t0 else m.t1
noncomputable def iy (m:M)(s:Int):List Str:=if s=0 then m.p0 else m.p1
theorem mO {m:M}{s:Int}(h:s=0\/s=1):iz [Tr.tp [.str m.t0,.ls (m.p0.map .str)],Tr.tp [.str m.t1,.ls (m.p1.map .str)]] s=some (.tp [.str (jc m s),.ls ((iy m s).map .str)]):=by rcases h with rfl|rfl<;>rfl
theorem HH {m:M}{s:Int}(h:s=0\/s=1):iz [Tr.tp [.str m.t0,.ls (m.p0.map .str)],Tr.tp [.str m.t1,.ls (m.p1.map .str)]] (1 - s)=some (.tp [.str (jc m (1 - s)),.ls ((iy m (1 - s)).map .str)]):=by rcases h with rfl|rfl<;>rfl
noncomputable def lI (m:M):Option Int:=if m.pl=[] then none else if (h_ m).isSome=true then none else if lH m=true then none else if m.Yt=true/\m.pl.length=2 then some (f_ m) else some (1 - f_ m)
noncomputable def lP:Option Int->Tr|none=>.br|some i=>.int i
theorem aer:rJ 0 2=[.int 0,.int 1]:=rfl
noncomputable def Al (m:M)(t:Str):Option Int:=if m.t0=t/\(m.pl=[]\/lI m=some 0) then some 0 else if m.t1=t/\(m.pl=[]\/lI m=some 1) then some 1 else none
noncomputable def mP (m:M)(t f o b:Str):Option Str:=if (h_ m).isSome=true then some "going" else match Al m t with
 |none=>some "turn"
 |some s=>if f∉iy m s\/o∉iy m s\/b∉iy m (1 - s) then some "team" else if f=o then some "alike" else none
theorem su {m:M}{y:Ly}{fR:List I}{x:I}{ci:List L3}{c:L3}(e1:m.pl=fR++[x])(e2:y.cs=ci++[c]):Py m y=if x.en="" then .hd c.i else .br:=by
 unfold Py;rw[e1,e2];simp
theorem pN {m:M}{fR:List I}{x:I}(e1:m.pl=fR++[x]):h_ m=if x.en="" then some x else none:=by
 unfold h_;rw[e1];simp
theorem gc {m:M}{y:Ly}(hl:y.cs.length=m.pl.length)(h:(h_ m).isSome=false):Py m y = .br:=by
 rcases jb hl with⟨e1,e2⟩|⟨fR,x,ci,c,e1,e2,e3⟩
 ·unfold Py;rw[e1,e2];rfl
 ·rw[su e1 e2]
  rw[pN e1] at h;split
  ·rename_i q;rw[if_pos q] at h;cases h
  ·rfl
theorem fH {m:M}{y:Ly}(hl:y.cs.length=m.pl.length)(h:(h_ m).isSome=true):∃(fR:List I) (x:I) (ci:List L3) (c:L3),m.pl=fR++[x]/\y.cs=ci++[c]/\ci.length=fR.length/\x.en=("" : Str)/\Py m y = .hd c.i/\h_ m=some x:=by
 rcases jb hl with⟨e1,e2⟩|⟨fR,x,ci,c,e1,e2,e3⟩
 ·unfold h_ at h;rw[e1] at h;cases h
 ·have hx:x.en="" := by
   rw[pN e1] at h;by_cases q:x.en=""
   ·exact q
   ·rw[if_neg q] at h;cases h
  exact⟨fR,x,ci,c,e1,e2,e3,hx,by rw[su e1 e2,if_pos hx],by rw[pN e1,if_pos hx]⟩
section
variable {S:Cs}{m:M}{y:Ly}{n:Nat}
theorem E3 (h:c9 S m y):vJ [.hd y.a] S = .ok (.int (2 * m.ru.i)) S:=by
 unfold vJ;have ha:=h.a;unfold mF U.t at ha;simp?[fx,ha]
theorem Uz (h:c9 S m y)(s:Int)(hs:m.pl.length<=1000):Cy [.hd y.a,.int s] S = .ok (.int (Uy m s)) S:=by
 unfold Cy;refine fF (S1:=S) (t:=.int (Uy m s)) ?_ (zaF ..) (by unfold nN;simp only[o_];rfl)
 have ha:=h.a;have hp:=h.p;unfold mF at ha;have hz:∀k:Nat,k<=1000->(k<=sizeLine)=True:=λk hk=>aZ (by omega)
 rw[<-Gv (l:=m.pl) (λc:L3=>Tr.hd c.i) h.len] at hp
 simp only[Br,gA,aI,bQ,af,gq,tR,aa,ak,aQ,Jc,iC,iL,Gb,cL,R.e9,R.fm,jC,rO,zV,GB,Dm,zU,Es,Nat.reduceAdd,Nat.reduceSub,zbX,zbq,zaT,zaD,Option.join,zbv,id_eq,zaw,ha,hp,fx,ahr,if_true];rw[i6 (by rw[hp]) (λτ=>∃v,τ=[some (.int s),v]) (λp:I×L3=>Tr.hd p.2.i) (λp=>.int p.1.CS) (λp=>decide (p.1.b9=s)) _ _ [] ⟨_,rfl⟩ ?_ (by
  rw[Es,List.length_zip,h.len];omega)]
 ·rw[Dm,Eg (λx:I=>decide (x.b9=s)) (λx=>Tr.int x.CS) h.len]
  simp only[R.e9,R6,Gb,CY,R.fm,tT];rfl
 ·rintro⟨x,c⟩ hxc τ ⟨v,rfl⟩
  obtain⟨j,h1,h2⟩:=MD hxc;have hi:=(h.q8 j x c h1 h2).i
  unfold iS at hi;refine⟨[some (.int s),some (.hd c.i)],⟨_,rfl⟩,rfl,?_,λ_=>?_⟩<;>simp?[fx,hi]
theorem Am (h:c9 S m y)(s:Int)(hs:m.pl.length<=1000):vK [.hd y.a,.int s] S = .ok (.int (lG m s)) S:=by
 unfold vK lG;have e1:=λs=>Uz h s hs
 have ha:=h.a;unfold mF at ha;simp?[fx,ha,e1,dO]
theorem An (h:c9 S m y)(z:Sz m n)(hn:n<=1000):yx [.hd y.a] S = .ok (.bl (lH m)) S:=by
 unfold yx lH;have hs:m.pl.length<=1000:=zai z.pl hn
 have e1:=fP h hs;have e2:=E3 h;have e3:=λs=>Am h s hs
 have ha:=h.a;have hp:=h.p;have hz:(y.cs.length<=sizeLine)=True:=aZ (by rw[h.len];omega)
 unfold mF at ha;cases hc:m.clo
 ·cases hg:(h_ m).isSome
  ·have eg:=gc h.len hg
   by_cases h3:m.pl.length=3
   ·have h3':((y.cs.length:Int)=3)=True:=eq_true (by rw[h.len,h3];rfl)
    by_cases h4:2 * m.ru.i=4
    ·rcases jb h.len with⟨a1,_⟩|⟨fR,x,ci,c,a1,a2,a3⟩
     ·rw[a1] at h3;cases h3
     ·have hi:=(h.qH a1 a2 a3).i
      unfold iS at hi;have hl:f_ m=x.b9:=by unfold f_;rw[a1];simp
      have h5:((ci.length:Int)+1=3)=True:=eq_true (by rw[a2,zag,zaR] at h3';have:=of_eq_true h3';omega)
      have UA:(ci.length+1<=sizeLine)=True:=by rw[a2,zag,zaR] at hz;exact hz
      rw[a2,zaE,rO,zV] at hp;simp?[fx,ha,hp,hi,hc,e1,eg,e2,e3,h4,h3,hl,UA,h5,zag,zae,mL,dO,zbA,zbN,Dk,IU]
    ·have h4':¬ (2 * m.ru.i=4):=h4
     simp?[fx,ha,hp,hc,e1,eg,e2,h3,h4',hz,h3',zae,dO,gGe,IU];simp only[h.len,h3];rfl
   ·have h3':((y.cs.length:Int)=3)=False:=eq_false (by rw[h.len];omega)
    simp?[fx,ha,hp,hc,e1,eg,e2,h3,hz,h3',zae,dO,gGe,IU];simp only[h.len]
  ·obtain⟨fR,x,ci,c,a1,a2,a3,a4,a5,a6⟩:=fH h.len hg
   simp?[fx,ha,hc,e1,a5]
 ·simp?[fx,ha,hc]
theorem Pz (h:c9 S m y)(z:Sz m n)(hn:n<=1000):CF [.hd y.a] S = .ok (lP (lI m)) S:=by
 unfold CF lI;have hs:m.pl.length<=1000:=zai z.pl hn
 have e1:=fP h hs;have e2:=An h z hn;have ha:=h.a;have hp:=h.p;have hz:(y.cs.length<=sizeLine)=True:=aZ (by rw[h.len];omega)
 unfold mF at ha;rcases jb h.len with⟨a1,a2⟩|⟨fR,x,ci,c,a1,a2,a3⟩
 ·rw[a2] at hp
  simp?[fx,ha,hp,a1,lP]
 ·have Dd:¬ m.pl=[]:=by rw[a1];simp
  have hi:=(h.qH a1 a2 a3).i
  unfold iS at hi;have hl:f_ m=x.b9:=by unfold f_;rw[a1];simp
  have UA:(ci.length+1<=sizeLine)=True:=by rw[a2,zag,zaR] at hz;exact hz
  have h0:¬ ((ci.length:Int)+1=0):=by omega
  rw[a2,zaE,rO,zV] at hp;cases hg:(h_ m).isSome
  ·have eg:=gc h.len hg
   cases hd:lH m
   ·cases hf:m.Yt
    ·simp?[fx,ha,hp,hi,Dd,e1,eg,e2,hd,hf,hl,UA,h0,zag,zae,mL,dO,zbA,zbN,lP]
    ·by_cases h2:m.pl.length=2
     ·have h5:((ci.length:Int)+1=2)=True:=eq_true (by rw[a1,zag,zaR,<-a3] at h2;omega)
      simp?[fx,ha,hp,hi,Dd,e1,eg,e2,hd,hf,hl,UA,h0,h2,h5,zag,zae,mL,dO,zbA,zbN,lP]
     ·have h5:((ci.length:Int)+1=2)=False:=eq_false (by rw[a1,zag,zaR,<-a3] at h2;omega)
      simp?[fx,ha,hp,hi,Dd,e1,eg,e2,hd,hf,hl,UA,h0,h2,h5,zag,zae,mL,dO,zbA,zbN,lP]
   ·simp?[fx,ha,hp,Dd,e1,eg,e2,hd,UA,h0,zag,zae,zbA,zbN,lP]
  ·obtain⟨fR,x,ci,c,b1,b2,b3,b4,b5,b6⟩:=fH h.len hg
   simp?[fx,ha,hp,Dd,e1,b5,UA,h0,zag,zae,zbA,zbN,lP]
theorem Yx (h:c9 S m y)(z:Sz m n)(hn:n<=1000)(t:Str):CI [.hd y.a,.str t] S = .ok (lP (Al m t)) S:=by
 have e1:=Pz h z hn;have ha:=h.a;have hp:=h.p;have hs:m.pl.length<=1000:=zai z.pl hn
 have hz:(y.cs.length<=sizeLine)=True:=aZ (by rw[h.len];omega)
 have h0:((y.cs.length:Int)=0)=(m.pl=[]):=by
  apply propext
  rw[h.len];constructor
  ·intro q;exact List.length_eq_zero_iff.mp (by omega)
  ·intro q;rw[q];rfl
 unfold CI Al;generalize hT:l9 _ _=T
 have key:∀s:Int,s=0\/s=1->T [some (.hd y.a),some (.str t),some (.int s)] S = .ok (decide (jc m s=t/\(m.pl=[]\/lI m=some s))) S:=λs s01=>by
  have k5:=@mO m s s01
  unfold mF aB at ha;subst hT;generalize jc m s=tt at *
  by_cases h1:tt=t
  ·by_cases h3:m.pl=[]
   ·simp?[fx,ha,hp,h0,h1,h3,hz,k5,zae]
   ·cases hN:lI m with
    |none =>
     rw[hN] at e1;simp?[fx,ha,hp,h0,h1,h3,hz,k5,zae,e1,lP]
    |some j =>
     rw[hN] at e1;simp?[fx,ha,hp,h0,h1,h3,hz,k5,zae,e1,lP,zbC,eq_comm,false_or,true_and]
  ·simp?[fx,ha,h1,k5]
 have t0:jc m 0=m.t0:=rfl
 have t1:jc m 1=m.t1:=rfl
 have a0:=key 0 (.inl rfl)
 have a1:=key 1 (.inr rfl)
 rw[t0] at a0;rw[t1] at a1;clear key
 by_cases c0:m.t0=t/\(m.pl=[]\/lI m=some 0)
 ·rw[decide_eq_true c0] at a0
  rw[if_pos c0];simp?[aer,a0,lP]
 ·rw[decide_eq_false c0] at a0
  rw[if_neg c0];by_cases c1:m.t1=t/\(m.pl=[]\/lI m=some 1)
  ·rw[decide_eq_true c1] at a1
   rw[if_pos c1];simp?[aer,a0,a1,lP]
  ·rw[decide_eq_false c1] at a1
   rw[if_neg c1];simp?[aer,a0,a1,lP]
theorem Yy (e:Al m t=some s):s=0\/s=1:=by
 unfold Al at e;split at e
 ·cases e;exact .inl rfl
 ·split at e
  ·cases e;exact .inr rfl
  ·cases e
theorem E4 (h:c9 S m y)(z:Sz m n)(hn:n<=1000)(t f o b:Str):G1 [.hd y.a,(bg.dg t f o b).t] S = .ok (dw (mP m t f o b)) S:=by
 unfold G1 mP bg.t;have hs:m.pl.length<=1000:=zai z.pl hn
 have e1:=fP h hs;have e2:=Yx h z hn t;have ha:=h.a;unfold mF aB at ha;cases hg:(h_ m).isSome
 ·have eg:=gc h.len hg
  cases hs:Al m t with
  |none=>rw[hs] at e2;simp?[fx,ha,e1,eg,e2,lP,dw]
  |some s =>
   rw[hs] at e2;have ajw:=Yy hs;have k1:=@mO m s ajw
   have k2:=@HH m s ajw
   by_cases h1:f∈iy m s<;>by_cases h2:o∈iy m s<;>by_cases h3:b∈iy m (1 - s)<;>by_cases h4:f=o <;>
    simp?[fx,ha,e1,eg,e2,lP,dw,k1,k2,dO,gj,cH,gi,h1,h2,h3,h4]
 ·obtain⟨fR,x,ci,c,b1,b2,b3,b4,b5,b6⟩:=fH h.len hg
  simp?[fx,ha,e1,b5,dw]
noncomputable def fK (m:M)(e:bg):Option Str:=match h_ m with
 |none=>some "none"
 |some x=>x.mK m.ru (iy m x.b9) (iy m (1 - x.b9)) e
theorem UB (e:bg)(he:e.yG=true):∃w l,e.t = .tp (.str w::l)/\¬ w="start" /\ ¬ w="swap" /\ ¬ w="follow" /\ ¬ w="close" := by
 have h:∀w∈(["ball","in","bowl","hurt","declare"]:List Str),¬ w="start" /\ ¬ w="swap" /\ ¬ w="follow" /\ ¬ w="close" := by decide +kernel
 cases e<;>first | (cases he;done)|exact⟨_,_,rfl,h _ (by simp)⟩
theorem C0 (h:c9 S m y)(z:Sz m n)(hn:n<=1000)(e:bg)(he:e.yG=true):qY [.hd y.a,e.t] S = .ok (dw (if lH m=true then some "done" else fK m e)) S:=by
 unfold qY;have hs:m.pl.length<=1000:=zai z.pl hn
 have e1:=fP h hs;have e2:=An h z hn;have ha:=h.a;unfold mF aB at ha;obtain⟨w,l,el,w1,w2,w3,w4⟩:=UB e he;cases hd:lH m
 ·cases hg:(h_ m).isSome
  ·have eg:=gc h.len hg
   have Eh:fK m e=some ("none" : Str):=by
    unfold fK;cases hq:h_ m with
    |none=>rfl
    |some x=>rw[hq] at hg;cases hg
   rw[el];simp?[fx,ha,e1,eg,e2,hd,Eh,dw,w1,w2,w3,w4]
  ·obtain⟨fR,x,ci,c,b1,b2,b3,b4,b5,b6⟩:=fH h.len hg
   have hI:=h.qH b1 b2 b3;have hi:=hI.i;unfold iS at hi;have hsd:=z.b9 x (by rw[b1];simp)
   have k1:=@mO m x.b9 hsd
   have k2:=@HH m x.b9 hsd
   have e3:=Px hI m.ru (iy m x.b9) (iy m (1 - x.b9)) e he
   have Eh:fK m e=x.mK m.ru (iy m x.b9) (iy m (1 - x.b9)) e:=by unfold fK;rw[b6]
   rw[<-Eh] at e3;unfold nF at e3;generalize fK m e=r at *
   rw[el] at e3 ⊢
   simp?[fx,ha,hi,e1,b5,e2,hd,k1,k2,dO,e3,w1,w2,w3,w4]
 ·simp?[fx,ha,e2,hd,dw]
end
noncomputable def aR (F:List Nat)(S S':Cs):Prop:=S.length<=S'.length/\∀j,j<S.length->j∉F->S'[j]? = S[j]?
theorem aR.refl:aR F S S:=⟨zah _,λ_ _ _=>rfl⟩
theorem aR.trans (a:aR F S1 S2)(b:aR F S2 S3):aR F S1 S3:=⟨zai a.1 b.1,λj h1 h2=>(b.2 j (zak h1 a.1) h2).trans (a.2 j h1 h2)⟩
theorem aR.mono (a:aR F S S')(h:∀j∈F,j∈F'):aR F' S S':=⟨a.1,λj h1 h2=>a.2 j h1 λz=>h2 (h j z)⟩
theorem aR.at (a:aR F S S')(h:S[j]? = some c)(hj:j∉F):S'[j]? = some c:=by rw[a.2 j (aK h) hj];exact h
theorem aR.set (h:n∈F):aR F S (S.set n c):=⟨by simp,λj _ h2=>cU λz=>h2 (z ▸ h)⟩
theorem aR.rW:aR F S (S++r):=⟨by simp,λj h1 _=>zaj h1⟩
theorem aR.jX (h:∀j∈k8 c,j∈F):aR F S (jX S x c):=by
 unfold My.jX;exact ((aR.set (h _ (by simp[k8]))).trans (aR.set (h _ (by simp[k8])))).trans (aR.set (h _ (by simp[k8])))
theorem gS.only (a:aR F S S')(h:gS S x c)(hF:∀j∈k8 c,j∉F):gS S' x c:=⟨a.at h.i (hF _ (by simp[k8])),a.at h.o (hF _ (by simp[k8])),a.at h.s (hF _ (by simp[k8]))⟩
theorem c9.only (a:aR F S S')(h:c9 S m y)(hF:∀j∈fp y,j∉F):c9 S' m y where
 a:=a.at h.a (hF _ (by simp[fp]))
 k:=a.at h.k (hF _ (by simp[fp]))
 p:=a.at h.p (hF _ (by simp[fp]))
 l:=a.at h.l (hF _ (by simp[fp]))
 len:=h.len
 q8:=λj x c h1 h2=>(h.q8 j x c h1 h2).only a λn hn=>hF n (by
  unfold fp;simp only[zan,zbm];exact .inr (.inr (.inr (.inr ⟨c,zaV h2,hn⟩))))
 nd:=h.nd
theorem Ao {α β:Type}{f:α -> List β}:∀{l:List α} {j k:Nat} {a b:α},(l.flatMap f).Nodup->l[j]? = some a->l[k]? = some b->j≠k->∀n∈f a,n∉f b
 |[],j,k,a,b,_,h,_,_,_,_=>by simp at h
 |x::r,j,k,a,b,nd,h1,h2,ne,n,hn=>by
  rw[zdt] at nd;have nd':=zch.mp nd;intro hb;cases j with
  |zero =>
   cases k with
   |zero=>exact ne rfl
   |succ k =>
    simp only[zaT,zbC] at h1;simp only[zaD] at h2;subst h1;exact nd'.2.2 n hn n (zbm.mpr ⟨b,zaV h2,hb⟩) rfl
  |succ j =>
   simp only[zaD] at h1;cases k with
   |zero =>
    simp only[zaT,zbC] at h2;subst h2;exact nd'.2.2 n hb n (zbm.mpr ⟨a,zaV h1,hn⟩) rfl
   |succ k =>
    simp only[zaD] at h2;exact Ao nd'.2.1 h1 h2 (λz=>ne (by rw[z])) n hn hb
theorem Yz (h:(fp y).Nodup):(y.cs.flatMap k8).Nodup:=by
 unfold fp at h;simp only[zby] at h;exact h.2.2.2.2
noncomputable def M.lJ (m:M)(x:I):M:={m with pl:=m.pl.dropLast++[x]}
section
variable {S:Cs}{m:M}{y:Ly}{n:Nat}{fR:List I}{x x':I}{ci:List L3}{c:L3}
theorem c9.lJ (h:c9 S m y)(e1:m.pl=fR++[x])(e2:y.cs=ci++[c])(e3:ci.length=fR.length):c9 (jX S x' c) (m.lJ x') y:=by
 obtain⟨d,a1,a2,a3,a4,b1,b2,b3,b4,c1,c2,c3,c4⟩:=CZ h.nd (c:=c) (by rw[e2];simp)
 have hI:=h.qH e1 e2 e3;have on:aR (k8 c) S (jX S x' c):=aR.jX λ_ h=>h
 have nm:∀j,j≠c.i->j≠c.o->j≠c.s->j∉k8 c:=λj h1 h2 h3 q=>by simp[k8] at q;rcases q with q|q|q;exact h1 q;exact h2 q;exact h3 q
 have ep:(m.lJ x').pl=fR++[x']:=by unfold M.lJ;simp[e1]
 refine⟨on.at h.a (nm _ a1.symm b1.symm c1.symm),on.at h.k (nm _ a2.symm b2.symm c2.symm),on.at h.p (nm _ a3.symm b3.symm c3.symm),on.at h.l (nm _ a4.symm b4.symm c4.symm),?_,?_,h.nd⟩
 ·rw[ep,e2];simp[e3]
 ·intro j z cz h1 h2
  rw[ep] at h1;by_cases hj:j=fR.length
  ·subst hj
   rw[gb] at h1;rw[e2,<-e3,gb] at h2;cases h1;cases h2
   exact kZ hI d
  ·have Gu:j<fR.length:=by
    have:=(zab.mp h1).1
    simp at this
    omega
   rw[zaj Gu] at h1;refine (h.q8 j z cz (by rw[e1,zaj Gu];exact h1) h2).only on (Ao (Yz h.nd) h2 (k:=fR.length) (by rw[e2,<-e3,gb]) hj)
theorem aes (e1:m.pl=fR++[x])(z:I):(m.lJ z).pl=fR++[z]:=by unfold M.lJ;simp[e1]
theorem Sz.lJ (h:Sz m n)(e1:m.pl=fR++[x])(hs:x'.b9=x.b9)(h1:x'.outs.length<=n)(h2:x'.gG.length<=n):Sz (m.lJ x') n:=by
 have ep:=aes e1 x';have hm:∀z∈(m.lJ x').pl,z∈m.pl\/z=x':=λz hz=>by
  rw[ep] at hz;rcases zbL.mp hz with q|q
  ·exact .inl (by rw[e1];exact zcl _ q)
  ·exact .inr (by simpa using q)
 refine⟨?_,h.kn,h.gK,h.p0,h.p1,λz hz=>?_,λz hz=>?_,λz hz=>?_⟩
 ·rw[ep];have:=h.pl;rw[e1] at this;simpa using this
 ·rcases hm z hz with q|rfl
  ·exact h.outs z q
  ·exact h1
 ·rcases hm z hz with q|rfl
  ·exact h.gG z q
  ·exact h2
 ·rcases hm z hz with q|rfl
  ·exact h.b9 z q
  ·rw[hs];exact h.b9 x (by rw[e1];simp)
end
noncomputable def jd (m:M)(x:I)(b:B):Tr:=.tp [.int ((m.pl.length:Int) - 1),.int x.ov,.int x.ba,.str x.nA,.str x.vN,.str x.vX,b.t,.str (x.DX b)]
noncomputable def nZ (m:M)(x:I):bg->M
 |.pJ b=>{m.lJ (x.pI m.ru b) with gK:=m.gK++[jd m x b]}
 |.q8 n=>m.lJ (x.CT n)
 |.pK n=>m.lJ (x.yF n)
 |.pL n=>m.lJ (x.gB n)
 |.fO=>m.lJ { x with en:= "declared" }
 |_=>m
noncomputable def E5 (m:M)(x:I):Str:=if (m.pl.length:Int)=2 * m.ru.i/\0<lG m x.b9 then "won" else if x.Yu=true/\x.left (iy m x.b9)=false then "out" else if 0<m.ru.v/\m.ru.v<=x.ov then "overs" else ""
noncomputable def pO (m:M):M:=match h_ m with|some x=>m.lJ {x with en:=E5 m x} | none=>m
section
variable {S:Cs}{m:M}{y:Ly}{n:Nat}{fR:List I}{x x':I}{ci:List L3}{c:L3}
theorem PB (h:c9 S m y)(z:Sz m n)(hn:n<=1000)(e1:m.pl=fR++[x])(e2:y.cs=ci++[c])(e3:ci.length=fR.length):HA [.hd y.a,.hd c.i] S = .ok (.str (E5 m x)) S:=by
 have hs:m.pl.length<=1000:=zai z.pl hn
 have hI:=h.qH e1 e2 e3;have k1:=E3 h;have k2:=Am h x.b9 hs;have k3:=Pn hI;have hsd:=z.b9 x (by rw[e1];simp)
 have k5:=@mO m x.b9 hsd
 have hpl:(iy m x.b9).length<=1000:=by
  have:=z.p0;have:=z.p1
  unfold iy;split<;>omega
 have k4:=aeq hI (iy m x.b9) hpl
 unfold nF at k4;have ha:=h.a;have hp:=h.p;have hi:=hI.i;have hz:(y.cs.length<=sizeLine)=True:=aZ (by rw[h.len];omega)
 unfold mF aB at ha;unfold iS at hi;have dB:(y.cs.length:Int)=m.pl.length:=by rw[h.len]
 unfold HA E5;generalize (m.pl.length:Int)=N at *
 generalize lG m x.b9=L at *
 generalize x.Yu=G at *
 generalize x.left (iy m x.b9)=F at *
 generalize hT1:l9 (mB (ai (cR false) _ _)) _=T1
 generalize VD:l9 (mB (aF _ _ _ _ _ _)) _=T2
 generalize Z5:mB (kH _ _ _ _ _)=T3
 have a1:T1 [some (.hd y.a),some (.hd c.i)] S = .ok (decide (N=2 * m.ru.i/\0<L)) S:=by
  subst hT1;by_cases h1:N=2 * m.ru.i<;>simp?[fx,ha,hp,hi,hz,k1,k2,dB,h1,zae,D8,IU,true_and,false_and,decide_false]
 have a2:T2 [some (.hd y.a),some (.hd c.i)] S = .ok (decide (G=true/\F=false)) S:=by
  have eG:decide (G=true/\F=false)=(G && !F):=by cases G<;>cases F<;>rfl
  rw[eG];subst VD;cases G<;>simp?[fx,ha,hi,k3,k4,k5,zdn,zcZ]
 have a3:T3 [some (.hd y.a),some (.hd c.i)] S = .ok (decide (0<m.ru.v/\m.ru.v<=x.ov)) S:=by
  subst Z5;unfold U.t at ha;by_cases h1:0<m.ru.v<;>simp?[fx,ha,hi,h1,Dk,Vv,IU,true_and,false_and,decide_false]
 clear hT1 VD Z5 ha hi hp k1 k2 k3 k4 k5
 by_cases q1:N=2 * m.ru.i/\0<L
 ·rw[decide_eq_true q1] at a1
  rw[if_pos q1];simp?[a1]
 ·rw[decide_eq_false q1] at a1
  rw[if_neg q1];by_cases q2:G=true/\F=false
  ·rw[decide_eq_true q2] at a2
   rw[if_pos q2];simp?[a1,a2]
  ·rw[decide_eq_false q2] at a2
   rw[if_neg q2];by_cases q3:0<m.ru.v/\m.ru.v<=x.ov
   ·rw[decide_eq_true q3] at a3
    rw[if_pos q3];simp?[a1,a2,a3]
   ·rw[decide_eq_false q3] at a3
    rw[if_neg q3];simp?[a1,a2,a3]
theorem UC (h:(fp y).Nodup):y.a≠y.k/\y.a≠y.p/\y.a≠y.l/\y.k≠y.p/\y.k≠y.l/\y.p≠y.l:=by
 unfold fp at h;simp only[zby,zan,not_or] at h;exact⟨h.1.1,h.1.2.1,h.1.2.2.1,h.2.1.1,h.2.1.2.1,h.2.2.1.1⟩
theorem c9.HZ (h:c9 S m y)(on:aR [n] S S')(hn:∀c∈y.cs,n∉k8 c):∀(j:Nat) x c,m.pl[j]? = some x->y.cs[j]? = some c->gS S' x c:=λj x c h1 h2=>(h.q8 j x c h1 h2).only on λk hk q=>by
 simp at q
 subst q;exact hn c (zaV h2) hk
theorem HJ (h:(fp y).Nodup)(hk:k=y.a\/k=y.k\/k=y.p\/k=y.l):∀c∈y.cs,k∉k8 c:=λc hc q=>by
 obtain⟨d,a1,a2,a3,a4,b1,b2,b3,b4,c1,c2,c3,c4⟩:=CZ h (c:=c) hc
 simp[k8] at q
 rcases hk with rfl|rfl|rfl|rfl<;>rcases q with q|q|q<;>first|exact a1 q.symm|exact a2 q.symm|exact a3 q.symm|exact a4 q.symm|exact b1 q.symm|exact b2 q.symm|exact b3 q.symm|exact b4 q.symm|exact c1 q.symm|exact c2 q.symm|exact c3 q.symm|exact c4 q.symm
theorem c9.anv (h:c9 S m y)(l:List Tr):c9 (S.set y.l (.bM l)) {m with gK:=l} y:=by
 obtain⟨a1,a2,a3,a4,a5,a6⟩:=UC h.nd;exact⟨by rw[cU a3.symm];exact h.a,by rw[cU a5.symm];exact h.k,by rw[cU a6.symm];exact h.p,bZ (aK h.l),h.len,h.HZ (aR.set (by simp)) (HJ h.nd (.inr (.inr (.inr rfl)))),h.nd⟩
theorem UD (h:c9 S m y)(z:Sz m n)(hn:n<=1000)(e1:m.pl=fR++[x])(e2:y.cs=ci++[c])(e3:ci.length=fR.length)(hx:x.en="")(b:B):
  Hs [.hd y.a,b.t] S = .ok .br ((jX S (x.pI m.ru b) c).set y.l (.bM (m.gK++[jd m x b]))):=by
 unfold Hs jd;have hs:m.pl.length<=1000:=zai z.pl hn
 have hI:=h.qH e1 e2 e3;have UE:x∈m.pl:=by rw[e1];simp
 obtain⟨d,a1,a2,a3,a4,b1,b2,b3,b4,c1,c2,c3,c4⟩:=CZ h.nd (c:=c) (by rw[e2];simp)
 have k1:=fP h hs;rw[su e1 e2,if_pos hx] at k1;have k2:=aep hI d m.ru b (zai (z.outs x UE) hn)
 have hM:=c9.lJ (x':=x.pI m.ru b) h e1 e2 e3
 have ha:=h.a;have hp:=h.p;have hi:=hI.i;have Ru:=hM.a;have hl':=hM.l;have Ke:(m.lJ (x.pI m.ru b)).gK=m.gK:=rfl
 rw[Ke] at hl';have hz:(y.cs.length<=sizeLine)=True:=aZ (by rw[h.len];omega)
 have hz2:(m.gK.length<sizeLine)=True:=iZ (by have:=z.gK;omega)
 have dB:(y.cs.length:Int)=m.pl.length:=by rw[h.len]
 unfold mF at ha Ru;unfold iS at hi;generalize (m.pl.length:Int)=N at *
 generalize x.DX b=o at *
 generalize jX S (x.pI m.ru b) c=S1 at *
 unfold B.t at *
 simp?[fx,k1,ha,hp,hi,hz,dB,zae,dO,k2,Ru,hl',hz2]
end
noncomputable def Aq (s:Int)(f o b:Str):I:=⟨s,f,o,b,"",0,0,0,0,"",[],[(b,1)]⟩
noncomputable def jz (k:Nat):L3:=⟨k,k+1,k+2⟩
noncomputable def E6 (S:Cs)(s:Int)(f o b:Str):Cs:=S++[Ce.dZ "Innings" (iS (Aq s f o b) (jz S.length)),Ce.jn [],Ce.jn [(Sum.inr b,Tr.int 1)]]
noncomputable def JE (S:Cs)(y:Ly)(s:Int)(f o b:Str):Cs:=(E6 S s f o b).set y.p (.bM (y.cs.map (λc=>Tr.hd c.i)++[Tr.hd S.length]))
theorem E7:(S++(a::r))[S.length]? = some a:=by simp
theorem sa0:(S++(a::r)).set S.length b=S++(b::r):=by
 rw[zdY _ _ (zah _),Nat.sub_self];rfl
theorem ga2:(S++(a::b::c::r))[S.length+2]? = some c:=by
 rw[zat (by omega),show S.length+2 - S.length=2 by omega];rfl
theorem sa2:(S++(a::b::c::r)).set (S.length+2) d=S++(a::b::d::r):=by
 rw[zdY _ _ (by omega),show S.length+2 - S.length=2 by omega];rfl
theorem ajx (S:Cs)(s:Int)(f o b:Str):Uh [.hd S.length,.int s,.str f,.str o,.str b] (S++[.dZ "Innings" []]) = .ok .br (E6 S s f o b):=by
 unfold Uh E6 iS Aq jz;simp?[fx,E7,sa0,ga2,sa2,fN,lA,zaC,zbp,List.foldl_nil,zey]
section
variable {S:Cs}{m:M}{y:Ly}{n:Nat}{fR:List I}{x x':I}{ci:List L3}{c:L3}
theorem c9.lt (h:c9 S m y):∀j∈fp y,j<S.length:=by
 intro j hj;unfold fp at hj;simp only[zan,zbm] at hj;rcases hj with rfl|rfl|rfl|rfl|⟨c,hc,hj⟩
 ·exact aK h.a
 ·exact aK h.k
 ·exact aK h.p
 ·exact aK h.l
 ·obtain⟨k,hk⟩:=List.getElem?_of_mem hc
  have hk2:k<m.pl.length:=by rw[<-h.len];exact (zab.mp hk).1
  have hI:=h.q8 k m.pl[k] c (zad hk2) hk
  simp[k8] at hj
  rcases hj with rfl|rfl|rfl
  ·exact aK hI.i
  ·exact aK hI.o
  ·exact aK hI.s
theorem c9.ajy (h:c9 S m y)(s:Int)(f o b:Str):c9 (JE S y s f o b) {m with pl:=m.pl++[Aq s f o b]} {y with cs:=y.cs++[jz S.length]}:=by
 have on:aR [y.p] S (JE S y s f o b):=aR.trans aR.rW (aR.set (by simp))
 obtain⟨a1,a2,a3,a4,a5,a6⟩:=UC h.nd;have jg:=h.lt;have hp:=jg y.p (by simp[fp])
 have ne:∀k,S.length<=k->y.p≠k:=λk hk z=>by omega
 refine⟨on.at h.a (by simp[a2]),on.at h.k (by simp[a4]),?_,on.at h.l (by simp[a6.symm]),by simp[h.len],?_,?_⟩
 ·unfold JE E6
  rw[bZ (by simp;omega)]
  simp[jz]
 ·intro j z cz h1 h2
  by_cases hj:j=m.pl.length
  ·subst hj
   have q1:(m.pl++[Aq s f o b])[m.pl.length]? = some (Aq s f o b):=gb _ _
   have q2:(y.cs++[jz S.length])[m.pl.length]? = some (jz S.length):=by rw[<-h.len];exact gb _ _
   simp only at h1 h2
   rw[q1] at h1;rw[q2] at h2;cases h1;cases h2
   unfold JE E6;refine⟨?_,?_,?_⟩
   ·rw[cU (k:=(jz S.length).i) (ne _ (zah _))]
    show (S++_)[S.length]? = _
    exact E7
   ·rw[cU (k:=(jz S.length).o) (ne _ (by simp[jz]))]
    show (S++_)[S.length+1]? = _
    rw[zat (by omega),show S.length+1 - S.length=1 by omega]
    rfl
   ·rw[cU (k:=(jz S.length).s) (ne _ (by simp[jz]))]
    show (S++_)[S.length+2]? = _
    rw[zat (by omega),show S.length+2 - S.length=2 by omega]
    rfl
  ·have Gu:j<m.pl.length:=by
    have:=(zab.mp h1).1
    simp at this
    omega
   simp only at h1 h2
   rw[zaj Gu] at h1;rw[zaj (by rw[h.len];exact Gu)] at h2
   exact h.HZ on (HJ h.nd (.inr (.inr (.inl rfl)))) j z cz h1 h2
 ·show (fp {y with cs:=y.cs++[jz S.length]}).Nodup
  have e:fp {y with cs:=y.cs++[jz S.length]}=fp y++[S.length,S.length+1,S.length+2]:=by
   unfold fp;simp[k8,jz]
  rw[e,zch];refine⟨h.nd,by simp,λa ha b hb=>?_⟩
  have:=jg a ha
  simp at hb
  omega
theorem UG (h:c9 S m y)(z:Sz m n)(hn:n<=1000)(t f o b:Str)(s:Int)(hs:Al m t=some s):Hh [.hd y.a,(bg.dg t f o b).t] S = .ok .br (JE S y s f o b):=by
 unfold Hh bg.t;have e1:=Yx h z hn t;rw[hs] at e1;have e2:=ajx S s f o b;have ha:=h.a;have hp:=h.p;have on:aR [] S (E6 S s f o b):=aR.rW
 have hp':=on.at h.p (by simp)
 have hz2:(y.cs.length<sizeLine)=True:=iZ (by have:=z.pl;rw[h.len];omega)
 unfold mF at ha;unfold JE;generalize E6 S s f o b=S1 at *
 simp?[fx,e1,lP,ha,hp,e2,hp',zae,hz2]
theorem anx (h:c9 S m y)(z:Sz m n)(hn:n<=1000)(e1:m.pl=fR++[x])(e2:y.cs=ci++[c])(e3:ci.length=fR.length)(hx:x.en="")(e:bg)(he:e.yG=true):
  ∃S',vM [.hd y.a,e.t] S = .ok .br S'/\c9 S' (nZ m x e) y/\aR (fp y) S S':=by
 have hs:m.pl.length<=1000:=zai z.pl hn
 have hI:=h.qH e1 e2 e3;have UE:x∈m.pl:=by rw[e1];simp
 obtain⟨d,_⟩:=CZ h.nd (c:=c) (by rw[e2];simp)
 have k1:=fP h hs;rw[su e1 e2,if_pos hx] at k1;have ha:=h.a;have hi:=hI.i;have Vr:=aK hI.i;have onc:∀x',aR (fp y) S (jX S x' c):=λx'=>aR.jX λj hj=>by
  unfold fp;simp only[zan,zbm];exact .inr (.inr (.inr (.inr ⟨c,by rw[e2];simp,hj⟩)))
 unfold mF at ha;unfold iS at hi;unfold vM;cases e with
 |pJ b =>
  have k2:=UD h z hn e1 e2 e3 hx b;refine⟨_,?_,(c9.lJ (x':=x.pI m.ru b) h e1 e2 e3).anv (m.gK++[jd m x b]),(onc _).trans (aR.set (by simp[fp]))⟩
  generalize jd m x b=r at *
  unfold bg.t;unfold B.t at *
  simp?[fx,k1,ha,k2]
 |q8 nm =>
  have k2:=aej hI d nm;refine⟨_,?_,c9.lJ (x':=x.CT nm) h e1 e2 e3,onc _⟩
  unfold bg.t;simp?[fx,k1,ha,hi,k2]
 |pK nm =>
  have k2:=Uw hI d nm (zai (z.gG x UE) hn)
  refine⟨_,?_,c9.lJ (x':=x.yF nm) h e1 e2 e3,onc _⟩
  unfold bg.t;simp?[fx,k1,ha,hi,k2]
 |pL nm =>
  have k2:=HE hI d nm;refine⟨_,?_,c9.lJ (x':=x.gB nm) h e1 e2 e3,onc _⟩
  unfold bg.t;simp?[fx,k1,ha,hi,k2]
 |fO =>
  have k2:=lE (y:={ x with en:= "declared" }) hI d rfl rfl
  refine⟨_,?_,c9.lJ (x':={ x with en:= "declared" }) h e1 e2 e3,onc _⟩
  unfold bg.t;unfold iS at k2;simp?[fx,k1,ha,hi,k2]
 |dg _ _ _ _=>cases he
 |swap _ _=>cases he
 |gU=>cases he
 |lF=>cases he
noncomputable def Ar:Str:= "the rules don't let this entry: "
theorem vO:Ar.length=32:=by decide +kernel
theorem JF (w:Str)(hw:w.length<=100)(e:Tr)(hm:S[y.a]? = some (.dZ "Match" (mF m y)))(hr:qY [.hd y.a,e] S = .ok (.str w) S0):
  lD [.hd y.a,e] S = .ex S0.length (S0++[.rF "NotLet" [("rule",.str w),("number",.int 0)]]):=by
 unfold lD;unfold mF at hm;have h1:(w.length<=sizeLine)=True:=aZ (by omega)
 have h2:((Str.empty++Ar).length<=sizeLine)=True:=aZ (by
  rw[Str.length_append,vO];decide)
 have h3:((Str.empty++Ar++w).length<=sizeLine)=True:=aZ (by
  rw[Str.length_append,Str.length_append,vO];have:Str.empty.length=0:=rfl
  omega)
 unfold Ar at h2 h3;simp?[fx,hm,hr,fJ,aaX,h1,h2,h3]
theorem E8 (h:c9 S m y)(z:Sz m n)(e:Tr)(hr:qY [.hd y.a,e] S = .ok .br S0)(h0:c9 S0 m y)(hy:y1.a=y.a)(hd:vM [.hd y.a,e] S0 = .ok .br S1)(h1:c9 S1 m1 y1)(z1:Sz m1 k)(hn:k<=1000):
  ∃S',lD [.hd y.a,e] S = .ok .br S'/\c9 S' (pO m1) y1/\aR (fp y1) S1 S':=by
 have ha:=h.a;have ha0:=h0.a;have LH:=h1.a;have k1:=fP h1 (zai z1.pl hn)
 rw[hy] at LH k1;unfold mF at ha ha0 LH;unfold lD;cases hg:(h_ m1).isSome
 ·have eg:=gc h1.len hg
  have ef:pO m1=m1:=by
   unfold pO;cases hq:h_ m1 with
   |none=>rfl
   |some x=>rw[hq] at hg;cases hg
  refine⟨S1,?_,by rw[ef];exact h1,aR.refl⟩
  simp?[fx,ha,ha0,hr,hd,LH,k1,eg]
 ·obtain⟨fR,x,ci,c,b1,b2,b3,b4,b5,b6⟩:=fH h1.len hg
  have hI:=h1.qH b1 b2 b3;obtain⟨d,_⟩:=CZ h1.nd (c:=c) (by rw[b2];simp)
  have k2:=PB h1 z1 hn b1 b2 b3;rw[hy] at k2;have k3:=lE (y:={x with en:=E5 m1 x}) hI d rfl rfl
  have hi:=hI.i;have ef:pO m1=m1.lJ {x with en:=E5 m1 x}:=by unfold pO;rw[b6]
  refine⟨jX S1 {x with en:=E5 m1 x} c,?_,by rw[ef];exact c9.lJ h1 b1 b2 b3,aR.jX λj hj=>?_⟩
  ·unfold iS at hi k3
   generalize E5 m1 x=en at *
   simp?[fx,ha,ha0,hr,hd,LH,k1,b5,k2,hi,k3]
  ·unfold fp
   simp only[zan,zbm];exact .inr (.inr (.inr (.inr ⟨c,by rw[b2];simp,hj⟩)))
theorem PD (x:I)(a b:Str):(x.wm a b).outs.length<=x.outs.length+1/\(x.wm a b).gG=x.gG/\(x.wm a b).b9=x.b9:=by
 unfold I.wm;have hl:∀(z:I) (k:Str),(z.gB k).outs=z.outs/\(z.gB k).gG=z.gG/\(z.gB k).b9=z.b9:=λz k=>by unfold I.gB;split<;>exact⟨rfl,rfl,rfl⟩
 dsimp only;generalize hy:I.gB {x with outs:=gC x.outs a,wk:=x.wk+1} a=y
 have h1:y.outs=gC x.outs a/\y.gG=x.gG/\y.b9=x.b9:=by rw[<-hy,(hl _ _).1,(hl _ _).2.1,(hl _ _).2.2];exact⟨rfl,rfl,rfl⟩
 have h2:y.outs.length<=x.outs.length+1:=by
  rw[h1.1];unfold gC
  split<;>simp
 split<;>split<;>exact⟨h2,h1.2⟩
theorem PF (u:U)(x:I)(b:B):(x.pI u b).outs.length<=x.outs.length+1/\(x.pI u b).gG=x.gG/\(x.pI u b).b9=x.b9:=by
 unfold I.pI;have hf:∀(x:I) (o:Int),(x.wo o).outs=x.outs/\(x.wo o).gG=x.gG/\(x.wo o).b9=x.b9:=λx o=>by unfold I.wo;split<;>exact⟨rfl,rfl,rfl⟩
 dsimp only;generalize hz:(if nY b.r b.rp=true then I.swap {x with CS:=x.CS+b.Ut u} else {x with CS:=x.CS+b.Ut u})=z
 have z1:z.outs=x.outs/\z.gG=x.gG/\z.b9=x.b9:=by rw[<-hz];split<;>exact⟨rfl,rfl,rfl⟩
 generalize hw:(if x.DX b="" then z else z.wm (x.DX b) (if b.w="run" then b.en else "strike"))=w
 have w1:w.outs.length<=x.outs.length+1/\w.gG=x.gG/\w.b9=x.b9:=by
  rw[<-hw,<-z1.1,<-z1.2.1,<-z1.2.2];split
  ·exact⟨zbb _,rfl,rfl⟩
  ·exact PD _ _ _
 split
 ·rw[(hf w u.o).1,(hf w u.o).2.1,(hf w u.o).2.2];exact w1
 ·exact w1
theorem yH (l:List (Str×Int))(k:Str)(v:Int):(mJ l k v).length<=l.length+1:=by unfold mJ;split<;>simp
theorem Sz.mono (h:Sz m n)(hn:n<=n'):Sz m n':=⟨zai h.pl hn,zai h.kn hn,zai h.gK hn,h.p0,h.p1,λx hx=>zai (h.outs x hx) hn,λx hx=>zai (h.gG x hx) hn,h.b9⟩
theorem Sz.nZ (z:Sz m n)(e1:m.pl=fR++[x])(e:bg):Sz (nZ m x e) (n+1):=by
 have UE:x∈m.pl:=by rw[e1];simp
 have z':=z.mono (zbb n)
 have ho:=z.outs x UE;have hs:=z.gG x UE;cases e with
 |pJ b =>
  have q:=PF m.ru x b;have k:=z'.lJ (x':=x.pI m.ru b) e1 q.2.2 (by omega) (by rw[q.2.1];omega)
  refine⟨k.pl,k.kn,?_,k.p0,k.p1,k.outs,k.gG,k.b9⟩
  show (m.gK++[jd m x b]).length<=n+1
  have:=z.gK
  simp
  exact this
 |q8 nm=>exact z'.lJ (x':=x.CT nm) e1 (by unfold I.CT;split<;>rfl) (by unfold I.CT;split<;>(show x.outs.length<=_;omega)) (by unfold I.CT;split<;>(show x.gG.length<=_;omega))
 |pK nm=>exact z'.lJ (x':=x.yF nm) e1 rfl (by show x.outs.length<=_;omega) (by have:=yH x.gG nm (ja x.gG nm+1);show (mJ _ _ _).length<=_;omega)
 |pL nm=>exact z'.lJ (x':=x.gB nm) e1 (by unfold I.gB;split<;>rfl) (by unfold I.gB;split<;>(show x.outs.length<=_;omega)) (by unfold I.gB;split<;>(show x.gG.length<=_;omega))
 |fO=>exact z'.lJ (x':={ x with en:= "declared" }) e1 rfl (by show x.outs.length<=_;omega) (by show x.gG.length<=_;omega)
 |dg _ _ _ _=>exact z'
 |swap _ _=>exact z'
 |gU=>exact z'
 |lF=>exact z'
theorem Sz.eO (z:Sz m n):Sz (pO m) n:=by
 unfold pO;cases hg:h_ m with
 |none=>exact z
 |some x =>
  rcases zcj m.pl with h|⟨fR,w,h⟩
  ·unfold h_ at hg;rw[h] at hg;cases hg
  ·have h:m.pl=fR++[w]:=by simpa using h
   rw[pN h] at hg;split at hg
   ·cases hg
    exact z.lJ h rfl (z.outs x (by rw[h];simp)) (z.gG x (by rw[h];simp))
   ·cases hg
end
theorem UH (h:dW t=true):vw n S t=t:=by
 cases t<;>first | (cases h;done) | (cases n<;>rfl)
theorem PK {n:Nat}{S:Cs}{l:List Tr}(h:l.all dW=true):l.map (vw n S)=l:=by
 have:l.map (vw n S)=l.map _root_.id:=zbY λt ht=>UH (zaK.mp h t ht)
 rw[this,List.map_id]
theorem yI:∀{l:List Tr},l.all dW=true->Tr.jA l=true
 |[],_=>by unfold Tr.jA;rfl
 |t::l,h=>by
  rw[zay,zbe] at h;unfold Tr.jA;rw[yI h.2,zdo];cases t<;>first | (cases h.1;done) | (unfold Tr.lQ;rfl)
theorem C1:∀{l:List Tr},l.all dW=true->Tr.pR l=0
 |[],_=>by unfold Tr.pR;rfl
 |t::l,h=>by
  rw[zay,zbe] at h;unfold Tr.pR;rw[C1 h.2];cases t<;>first | (cases h.1;done) | (unfold Tr.dp;rfl)
theorem aet (h:l.all dW=true):cR neg (.tp l) (.tp l) S = .ok (.bl (!neg)) S:=by
 unfold cR;have e:vw 6 S (.tp l) = .tp l:=by
  show Tr.tp (l.map (vw 5 S))=_
  rw[PK h]
 simp only[show IX (.tp l) (.tp l)=none from rfl];rw[e,if_pos];refine⟨trivial,?_,?_,?_⟩
 ·unfold Tr.lQ;exact yI h
 ·unfold Tr.dp;rw[C1 h];decide
 ·unfold Tr.dp;omega
noncomputable def cI (u:U)(t0 t1:Str)(p0 p1:List Str):M:=⟨u,t0,t1,p0,p1,p0++p1,[],false,false,[]⟩
noncomputable def nG (k:Nat):Ly:=⟨k,k+1,k+2,k+3,[]⟩
noncomputable def j6 (S:Cs)(m:M):Cs:=S++[Ce.dZ "Match" (mF m (nG S.length)),Ce.bM (m.kn.map .str),Ce.bM [],Ce.bM []]
theorem ga1:(S++(a::b::r))[S.length+1]? = some b:=by
 rw[zat (by omega),show S.length+1 - S.length=1 by omega];rfl
theorem ga3:(S++(a::b::c::d::r))[S.length+3]? = some d:=by
 rw[zat (by omega),show S.length+3 - S.length=3 by omega];rfl
theorem PM (t0 t1:Str)(p0 p1:List Str)(h0:p0.length<=11)(h1:p1.length<=11)(S:Cs):Cw [aB t0 t1 p0 p1,.str "player"] S = .ok (.hd S.length) (S++[.bM ((p0++p1).map .str)]):=by
 unfold Cw aB;have hl:(p0.length<=sizeLine)=True:=aZ (by omega)
 have Ke:(p0.length+p1.length<=sizeLine)=True:=aZ (by omega)
 simp?[fx,Jh,zae,zaE,hl,Ke,zbT,zag]
theorem vP (u:U)(t0 t1:Str)(p0 p1:List Str)(h0:p0.length<=11)(h1:p1.length<=11)(S:Cs):qX [.hd S.length,u.t,aB t0 t1 p0 p1] (S++[.dZ "Match" []]) = .ok .br (j6 S (cI u t0 t1 p0 p1)):=by
 unfold qX j6 cI mF nG;have ht:=λS=>PM t0 t1 p0 p1 h0 h1 S
 have hl0:(p0.length<=sizeLine)=True:=aZ (by omega)
 have RN:(p1.length<=sizeLine)=True:=aZ (by omega)
 have hz:(∀n:Nat,(n<5)=True->(n<sizeLine)=True):=λn h=>iZ (by have:=of_eq_true h;omega)
 unfold aB at ht ⊢
 generalize u.t=ut at *
 simp?[fx,ht,hz,zae,hl0,RN,E7,sa0,zaC]
theorem UI (S:Cs)(u:U)(t0 t1:Str)(p0 p1:List Str):c9 (j6 S (cI u t0 t1 p0 p1)) (cI u t0 t1 p0 p1) (nG S.length):=by
 unfold j6;refine⟨E7,ga1,ga2,ga3,rfl,λj x c h=>?_,?_⟩
 ·simp[cI] at h
 ·simp[fp,nG]
theorem UJ (u:U)(t0 t1:Str)(p0 p1:List Str)(h0:p0.length<=11)(h1:p1.length<=11):Sz (cI u t0 t1 p0 p1) 22:=⟨by simp[cI],by simp[cI];omega,by simp[cI],h0,h1,λx h=>by simp[cI] at h,λx h=>by simp[cI] at h,λx h=>by simp[cI] at h⟩
noncomputable def jE (m:M):Tr:=match h_ m with
 |some x=>.tp [.str (jc m x.b9),.str x.nA,.str x.vN,.str x.vX,.int x.CS,.int x.wk,.int x.ov,.int x.ba]
 |none=>.br
section
variable {S:Cs}{m:M}{y:Ly}{n:Nat}
theorem HK (h:c9 S m y)(z:Sz m n)(hn:n<=1000):CA [.hd y.a] S = .ok (jE m) S:=by
 unfold CA jE;have k1:=fP h (zai z.pl hn)
 have ha:=h.a;unfold mF aB at ha;cases hg:(h_ m).isSome
 ·have eg:=gc h.len hg
  have en:h_ m=none:=by
   cases hq:h_ m with
   |none=>rfl
   |some x=>rw[hq] at hg;cases hg
  rw[en];refine fF (S1:=S) (t:=.br) ?_ (zaF ..) (by unfold nN;simp only[Gr];rfl)
  simp?[fx,ha,k1,eg]
 ·obtain⟨fR,x,ci,c,b1,b2,b3,b4,b5,b6⟩:=fH h.len hg
  have hi:=(h.qH b1 b2 b3).i
  unfold iS at hi;have k5:=@mO m x.b9 (z.b9 x (by rw[b1];simp))
  rw[b6];refine fF (S1:=S) (t:=.tp [.str (jc m x.b9),.str x.nA,.str x.vN,.str x.vX,.int x.CS,.int x.wk,.int x.ov,.int x.ba]) ?_ (zaF ..) ?_
  ·simp?[fx,ha,hi,k1,b5,k5]
  ·unfold nN
   simp only[fZ,nO,kQ,o_,zay,zaN,zaU];rfl
end
noncomputable def ni (a b n:Str):Str:=if n=a then b else n
noncomputable def As (a b:Str)(l:List Str):List Str:=l.foldl (λq n=>gC q (ni a b n)) []
noncomputable def E9 (a b:Str)(l:List (Str×Int)):List (Str×Int):=l.foldl (λq p=>mJ q (ni a b p.1) (ja l p.1)) []
theorem E_ (l:List Str)(n:Str):(gC l n).length<=l.length+1:=by unfold gC;split<;>simp
theorem PN:(As a b l).length<=l.length:=by
 have:∀(l q:List Str),(l.foldl (λq n=>gC q (ni a b n)) q).length<=q.length+l.length:=by
  intro l;induction l with
  |nil=>intro q;simp
  |cons n r ih=>intro q;rw[zbp];have:=ih (gC q (ni a b n));have:=E_ q (ni a b n);rw[zU];omega
 simpa[As] using this l []
theorem PR:(E9 a b l).length<=l.length:=by
 have:∀(g:Str->Int) (l q:List (Str×Int)),(l.foldl (λq p=>mJ q (ni a b p.1) (g p.1)) q).length<=q.length+l.length:=by
  intro g l;induction l with
  |nil=>intro q;simp
  |cons n r ih=>intro q;rw[zbp];have:=ih (mJ q (ni a b n.1) (g n.1));have:=yH q (ni a b n.1) (g n.1);rw[zU];omega
 simpa[E9] using this (ja l) l []
theorem anB (l:List Str):fN [] (l.map λn=>(Sum.inr (ni a b n),Tr.bl true))=g_ (As a b l):=by
 unfold fN As;rw[List.foldl_map];have:∀(l q:List Str),l.foldl (λx y=>lA x (Sum.inr (ni a b y):dI) (Tr.bl true)) (g_ q)=g_ (l.foldl (λq n=>gC q (ni a b n)) q):=by
  intro l;induction l with
  |nil=>intro q;rfl
  |cons n r ih=>intro q;rw[zbp,CU,ih,zbp]
 exact this l []
theorem anC (l:List (Str×Int)):fN [] (l.map λp=>(Sum.inr (ni a b p.1),Tr.int (ja l p.1)))=sj (E9 a b l):=by
 unfold fN E9;rw[List.foldl_map];have:∀(g:Str->Int) (l q:List (Str×Int)),l.foldl (λx y=>lA x (Sum.inr (ni a b y.1):dI) (Tr.int (g y.1))) (sj q)=sj (l.foldl (λq p=>mJ q (ni a b p.1) (g p.1)) q):=by
  intro g l;induction l with
  |nil=>intro q;rfl
  |cons n r ih=>intro q;rw[zbp,HG,ih,zbp]
 exact this (ja l) l []
theorem yJ {α:Type}(k:α -> Str)(v:α -> Tr):∀l:List α,qv (l.map λp=>.tp [.str (k p),v p])=some (l.map λp=>(Sum.inr (k p),v p))
 |[]=>rfl
 |p::r=>by
  rw[rO];unfold qv;rw[yJ k v r];rfl
theorem YA {α:Type}{S:Cs}{k:Nat}{D:List (dI×Tr)}(hk:S[k]? = some (.jn D))(a b:Str)(L:List α)(nm:α -> Str)(vl:α -> Tr)(hD:D.map (λp=>M9 p.1)=L.map λp=>.str (nm p))(hv:∀p∈L,aV (.inr (nm p)) D=some (vl p))(hl:L.length<=1000):
  CK [.hd k,.str a,.str b] S = .ok (.hd S.length) (S.set k (.v_ D)++[.jn (fN [] (L.map λp=>(Sum.inr (ni a b (nm p)),vl p)))]):=by
 unfold CK;have hf:(S.set k (.v_ D))[k]? = some (.v_ D):=bZ (aK hk)
 generalize hS:S.set k (.v_ D)=S1 at *
 simp only[Br,gA,aI,bQ,af,gq,tR,aa,ak,iD,hk,hD,hS,R.e9,R.fm,jC,rO,zV,GB,Dm,zU,Es,Nat.reduceAdd,Nat.reduceSub,zbX,zbq,zaT,zaD,Option.join,zbv,id_eq,zaw];rw[i6 trivial (λτ=>∃v,τ=[some (.str b),some (.hd k),some (.str a),v]) (λp=>.str (nm p)) (λp=>.tp [.str (ni a b (nm p)),vl p]) (λ_=>true) L _ [] ⟨_,rfl⟩ ?_ (by simp;omega)]
 ·rw[Dm,zcY.mpr (λ_ _=>rfl)]
  have Ke:(L.map λp=>((Sum.inr (ni a b (nm p)):dI),vl p)).length<=1000:=by simpa using hl
  have hL1:S1.length=S.length:=by rw[<-hS];simp
  simp only[R.e9,zS,Be,yJ (λp=>ni a b (nm p)) vl,R.fm,tT,if_pos Ke,hL1]
 ·rintro p hp τ ⟨v,rfl⟩
  refine⟨[some (.str b),some (.hd k),some (.str a),some (.str (nm p))],⟨_,rfl⟩,rfl,rfl,λ_=>?_⟩
  have h1:=hv p hp;unfold ni;by_cases h:nm p=a
  ·rw[if_pos h]
   rw[h] at h1;simp?[h,M7,M0,hf,zct,h1]
  ·rw[if_neg h]
   simp?[h,M7,M0,hf,zct,h1]
theorem JG (h:k∈l):aV (.inr k) (g_ l)=some (.bl true):=by
 have h1:=jY (k:=k) (l:=l)
 rw[decide_eq_true h] at h1;obtain⟨t,e⟩:=zbR.mp h1;rw[e];have:∀l:List Str,aV (.inr k) (g_ l)=some t->t = .bl true:=by
  intro l;induction l with
  |nil=>intro q;cases q
  |cons a r ih =>
   intro q;unfold g_ at q;rw[rO] at q;unfold aV at q;split at q
   ·cases q;rfl
   ·exact ih q
 rw[this l e]
theorem PU:∀p∈l,aV (.inr p.1) (sj l)=some (.int (ja l p.1)):=by
 induction l with
 |nil=>intro p h;cases h
 |cons a r ih =>
  intro p h;unfold sj;rw[rO];obtain⟨k,v⟩:=a;unfold aV ja;by_cases e:k=p.1
  ·rw[if_pos (by rw[e]),if_pos e]
  ·rw[if_neg (λz=>e (zdd z)),if_neg e]
   rcases zan.mp h with rfl|h
   ·exact absurd rfl e
   ·exact ih p h
noncomputable def I.ni (x:I)(a b:Str):I:={x with Ys:=My.ni a b x.Ys,outs:=As a b x.outs,gG:=E9 a b x.gG}
section
variable {S:Cs}{x:I}{c:L3}
theorem PV (h:gS S x c)(d:Dj c)(a b:Str)(ho:x.outs.length<=1000)(hs:x.gG.length<=1000):
  ∃S',Hw [.hd c.i,.str a,.str b] S = .ok .br S'/\gS S' (x.ni a b) ⟨c.i,S.length,S.length+1⟩/\aR (k8 c) S S':=by
 have k1:=YA h.o a b x.outs id (λ_=>.bl true) (by unfold g_;rw[zbt];rfl) (λp hp=>JG hp) ho
 simp only[id] at k1;rw[anB] at k1;have hi:=h.i;have lo:=aK h.o;have li:=aK h.i;have ls:=aK h.s;generalize hS1:S.set c.o (.v_ (g_ x.outs))++[.jn (g_ (As a b x.outs))]=S1 at *
 have on1:aR (k8 c) S S1:=by rw[<-hS1];exact (aR.set (by simp[k8])).trans aR.rW
 have l1:S1.length=S.length+1:=by rw[<-hS1];simp
 have i1:S1[c.i]? = some (.dZ "Innings" (iS x c)):=by
  rw[<-hS1,zaj (by simpa using li),cU d.io.symm];exact hi
 have s1:S1[c.s]? = some (.jn (sj x.gG)):=by
  rw[<-hS1,zaj (by simpa using ls),cU d.os];exact h.s
 have o1:S1[S.length]? = some (.jn (g_ (As a b x.outs))):=by
  rw[<-hS1,zat (by simp)];simp
 generalize Df:S1.set c.i (.dZ "Innings" (iS x ⟨c.i,S.length,c.s⟩))=S2 at *
 have on2:aR (k8 c) S S2:=by rw[<-Df];exact on1.trans (aR.set (by simp[k8]))
 have l2:S2.length=S.length+1:=by rw[<-Df];simpa using l1
 have i2:S2[c.i]? = some (.dZ "Innings" (iS x ⟨c.i,S.length,c.s⟩)):=by rw[<-Df];exact bZ (by omega)
 have s2:S2[c.s]? = some (.jn (sj x.gG)):=by rw[<-Df,cU d.is];exact s1
 have o2:S2[S.length]? = some (.jn (g_ (As a b x.outs))):=by rw[<-Df,cU (by omega)];exact o1
 have k2:=YA s2 a b x.gG (·.1) (λp=>.int (ja x.gG p.1)) (by unfold sj;rw[zbt];rfl) PU hs
 rw[anC,l2] at k2;generalize hS3:S2.set c.s (.v_ (sj x.gG))++[.jn (sj (E9 a b x.gG))]=S3 at *
 have on3:aR (k8 c) S S3:=by rw[<-hS3];exact on2.trans ((aR.set (by simp[k8])).trans aR.rW)
 have l3:S3.length=S.length+2:=by rw[<-hS3];simp[l2]
 have i3:S3[c.i]? = some (.dZ "Innings" (iS x ⟨c.i,S.length,c.s⟩)):=by
  rw[<-hS3,zaj (by simp;omega),cU d.is.symm];exact i2
 have o3:S3[S.length]? = some (.jn (g_ (As a b x.outs))):=by
  rw[<-hS3,zaj (by simp;omega),cU (by omega)];exact o2
 have s3:S3[S.length+1]? = some (.jn (sj (E9 a b x.gG))):=by
  rw[<-hS3,zat (by simp;omega)];simp[l2]
 have li3:c.i<S3.length:=by omega
 refine⟨S3.set c.i (.dZ "Innings" (iS (x.ni a b) ⟨c.i,S.length,S.length+1⟩)),?_,⟨bZ li3,by rw[cU (by show ¬ c.i=S.length;omega)];exact o3,by rw[cU (by show ¬ c.i=S.length+1;omega)];exact s3⟩,on3.trans (aR.set (by simp[k8]))⟩
 unfold Hw I.ni ni;unfold iS at hi i1 Df i2 i3 ⊢
 by_cases hh:x.Ys=a
 ·subst hh
  simp?[fx,hi,k1,i1,Df,i2,k2,i3,bZ li3,eL]
 ·simp?[fx,hi,k1,i1,Df,i2,k2,i3,hh,bZ li3,eL]
end
theorem YB (ps:List Str)(a b:Str)(S:Cs)(hl:ps.length<=1000):Hv [.ls (ps.map .str),.str a,.str b] S = .ok (.ls ((ps.map (ni a b)).map .str)) S:=by
 unfold Hv;simp only[Br,gA,aI,gq,tR,aa,iL,Gb,R.e9,R.fm,jC,rO,zV,GB,Dm,zU,Es,Nat.reduceAdd,Nat.reduceSub,zbX,zbq,zaT,zaD,Option.join,zbv,id_eq,zaw];rw[i6 trivial (λτ=>∃v,τ=[some (.str b),some (.str a),v]) (λn=>.str n) (λn=>.str (ni a b n)) (λ_=>true) ps _ [] ⟨_,rfl⟩ ?_ (by simp;omega)]
 ·rw[Dm,zcY.mpr (λ_ _=>rfl),zbt]
  simp only[R.e9,R.fm,tT];rfl
 ·rintro n hn τ ⟨v,rfl⟩
  refine⟨[some (.str b),some (.str a),some (.str n)],⟨_,rfl⟩,rfl,rfl,λ_=>?_⟩
  unfold ni;by_cases h:n=a<;>simp?[h]
section
variable {S:Cs}{m:M}{y:Ly}{n:Nat}{fR:List I}{x x':I}{ci:List L3}{c:L3}
theorem c9.rcd (h:c9 S m y)(m1:M)(hp:m1.pl=m.pl)(hl:m1.gK=m.gK):c9 ((S.set y.k (.bM (m1.kn.map .str))).set y.a (.dZ "Match" (mF m1 y))) m1 y:=by
 obtain⟨a1,a2,a3,a4,a5,a6⟩:=UC h.nd;have l1:=aK h.a;have l2:=aK h.k;refine⟨bZ (by simpa using l1),by rw[cU a1];exact bZ l2,by rw[cU a2,cU a4];exact h.p,by rw[cU a3,cU a5,hl];exact h.l,by rw[hp];exact h.len,λj x c h1 h2=>?_,h.nd⟩
 rw[hp] at h1;have hc:=zaV h2
 exact (h.q8 j x c h1 h2).only (F:=[y.k,y.a]) ((aR.set (by simp)).trans (aR.set (by simp))) λk hk q=>by
  rcases zan.mp q with rfl|q
  ·exact HJ h.nd (.inr (.inl rfl)) c hc hk
  ·rw[zau] at q
   subst q;exact HJ h.nd (.inl rfl) c hc hk
theorem c9.anE (h:c9 S m y)(e1:m.pl=fR++[x])(e2:y.cs=ci++[c])(e3:ci.length=fR.length)(on:aR (k8 c) S S')(hI:gS S' x' ⟨c.i,S.length,S.length+1⟩):c9 S' (m.lJ x') {y with cs:=ci++[⟨c.i,S.length,S.length+1⟩]}:=by
 obtain⟨d,a1,a2,a3,a4,b1,b2,b3,b4,c1,c2,c3,c4⟩:=CZ h.nd (c:=c) (by rw[e2];simp)
 have nm:∀j,j≠c.i->j≠c.o->j≠c.s->j∉k8 c:=λj h1 h2 h3 q=>by simp[k8] at q;rcases q with q|q|q;exact h1 q;exact h2 q;exact h3 q
 have ep:(m.lJ x').pl=fR++[x']:=by unfold M.lJ;simp[e1]
 refine⟨on.at h.a (nm _ a1.symm b1.symm c1.symm),on.at h.k (nm _ a2.symm b2.symm c2.symm),?_,on.at h.l (nm _ a4.symm b4.symm c4.symm),?_,?_,?_⟩
 ·have:=on.at h.p (nm _ a3.symm b3.symm c3.symm)
  rw[e2] at this;rw[this];simp
 ·rw[ep];simp[e3]
 ·intro j z cz h1 h2
  rw[ep] at h1;by_cases hj:j=fR.length
  ·subst hj
   rw[gb] at h1;rw[<-e3,gb] at h2;cases h1;cases h2
   exact hI
  ·have Gu:j<fR.length:=by
    have:=(zab.mp h1).1
    simp at this
    omega
   rw[zaj Gu] at h1;rw[zaj (by omega)] at h2
   have Gj:y.cs[j]? = some cz:=by rw[e2,zaj (by omega)];exact h2
   refine (h.q8 j z cz (by rw[e1,zaj Gu];exact h1) Gj).only on (Ao (Yz h.nd) Gj (k:=fR.length) (by rw[e2,<-e3,gb]) hj)
 ·have jg:=h.lt
  have nd:=h.nd;have f1:fp y=(y.a::y.k::y.p::y.l::ci.flatMap k8++[c.i])++[c.o,c.s]:=by unfold fp;rw[e2];simp[k8]
  have f2:fp {y with cs:=ci++[⟨c.i,S.length,S.length+1⟩]}=(y.a::y.k::y.p::y.l::ci.flatMap k8++[c.i])++[S.length,S.length+1]:=by unfold fp;simp[k8]
  rw[f2];rw[f1] at nd jg;generalize (y.a::y.k::y.p::y.l::ci.flatMap k8++[c.i])=L at *
  refine zch.mpr ⟨(zch.mp nd).1,by simp,λj hj k hk=>?_⟩
  have:=jg j (zcl _ hj)
  simp at hk
  omega
noncomputable def wu (m:M)(a b:Str):M:={m with kn:=m.kn++[b],p0:=m.p0.map (ni a b),p1:=m.p1.map (ni a b)}
noncomputable def JH (m:M)(a b:Str):M:=match h_ m with|some x=>(wu m a b).lJ (x.ni a b)|none=>wu m a b
theorem UK (h:c9 S m y)(z:Sz m n)(hn:n+1<=1000)(a b:Str):
  ∃S' y',Hx [.hd y.a,.str a,.str b] S = .ok .br S'/\c9 S' (JH m a b) y'/\aR (fp y) S S'/\y'.a=y.a/\∀j∈fp y',j∈fp y\/S.length<=j:=by
 have hM:=h.rcd (wu m a b) rfl rfl
 have ha:=h.a;have hk:=h.k;have la:=aK ha;have k1:=fP hM (zai z.pl (by omega))
 obtain⟨a1,_⟩:=UC h.nd;have hz:(m.kn.length<sizeLine)=True:=iZ (by have:=z.kn;omega)
 have w0:=λS=>YB m.p0 a b S (by have:=z.p0;omega)
 have w1:=λS=>YB m.p1 a b S (by have:=z.p1;omega)
 have hk2:((wu m a b).kn.map Tr.str)=m.kn.map .str++[.str b]:=by simp[wu]
 have on:aR (fp y) S ((S.set y.k (.bM ((wu m a b).kn.map .str))).set y.a (.dZ "Match" (mF (wu m a b) y))):=(aR.set (by simp[fp])).trans (aR.set (by simp[fp]))
 have dB:((S.set y.k (.bM ((wu m a b).kn.map .str))).set y.a (.dZ "Match" (mF (wu m a b) y))).length=S.length:=by simp
 have e0:(S.set y.k (.bM (m.kn.map .str++[.str b])))[y.a]? = some (.dZ "Match" (mF m y)):=by rw[cU a1.symm];exact ha
 rw[hk2] at hM k1 on dB;have hMa:=hM.a;generalize Df:(S.set y.k (.bM (m.kn.map .str++[.str b]))).set y.a (.dZ "Match" (mF (wu m a b) y))=S2 at *
 have hgo:h_ (wu m a b)=h_ m:=rfl
 have hgt:Py (wu m a b) y=Py m y:=rfl
 unfold Hx JH;cases hg:(h_ m).isSome
 ·have eg:=gc h.len hg
  have en:h_ m=none:=by
   cases hq:h_ m with
   |none=>rfl
   |some x=>rw[hq] at hg;cases hg
  rw[en];rw[hgt,eg] at k1;refine⟨S2,y,?_,hM,on,rfl,λj hj=>.inl hj⟩
  unfold mF wu aB at *
  simp?[fx,ha,hk,hz,e0,w0,w1,zP,Df,hMa,k1]
 ·obtain⟨fR,x,ci,c,b1,b2,b3,b4,b5,b6⟩:=fH h.len hg
  have hI:=hM.qH (x:=x) b1 b2 b3
  obtain⟨d,_⟩:=CZ h.nd (c:=c) (by rw[b2];simp)
  have UE:x∈m.pl:=by rw[b1];simp
  obtain⟨S3,k2,k3,k4⟩:=PV hI d a b (zai (z.outs x UE) (by omega)) (zai (z.gG x UE) (by omega))
  have hi:=hI.i;rw[b6];rw[hgt,b5] at k1;refine⟨S3,_,?_,c9.anE hM b1 b2 b3 k4 k3,on.trans (k4.mono λj hj=>?_),rfl,λj hj=>?_⟩
  ·unfold mF wu aB iS at *
   simp?[fx,ha,hk,hz,e0,w0,w1,zP,Df,hMa,k1,hi,k2]
  ·unfold fp
   simp only[zan,zbm];exact .inr (.inr (.inr (.inr ⟨c,by rw[b2];simp,hj⟩)))
  ·rw[dB] at hj
   simp only[fp,zan,List.flatMap_append,zbL,zdt,List.flatMap_nil,k8,zaL,or_false,b2] at hj ⊢
   rcases hj with q|q|q|q|q|q|q|q
   ·exact .inl (.inl q)
   ·exact .inl (.inr (.inl q))
   ·exact .inl (.inr (.inr (.inl q)))
   ·exact .inl (.inr (.inr (.inr (.inl q))))
   ·exact .inl (.inr (.inr (.inr (.inr (.inl q)))))
   ·exact .inl (.inr (.inr (.inr (.inr (.inr (.inl q))))))
   ·exact .inr (by omega)
   ·exact .inr (by omega)
noncomputable def Qq (m:M):M:={m with clo:=true}
noncomputable def JI (m:M):M:=match h_ m with|some x=>(Qq m).lJ { x with en:= "closed" } | none=>Qq m
theorem c9.ajE (h:c9 S m y)(m1:M)(hp:m1.pl=m.pl)(hl:m1.gK=m.gK)(hk:m1.kn=m.kn):c9 (S.set y.a (.dZ "Match" (mF m1 y))) m1 y:=by
 have:=h.rcd m1 hp hl
 rw[hk,i7 h.k] at this;exact this
theorem UL (h:c9 S m y)(z:Sz m n)(hn:n<=1000):∃S',Hy [.hd y.a] S = .ok .br S'/\c9 S' (JI m) y/\aR (fp y) S S':=by
 have hM:=h.ajE (Qq m) rfl rfl rfl
 have ha:=h.a;have la:=aK ha;have k1:=fP hM (zai z.pl (by omega))
 have on:aR (fp y) S (S.set y.a (.dZ "Match" (mF (Qq m) y))):=aR.set (by simp[fp])
 have hMa:=hM.a;generalize Df:S.set y.a (.dZ "Match" (mF (Qq m) y))=S2 at *
 have hgt:Py (Qq m) y=Py m y:=rfl
 unfold Hy JI;cases hg:(h_ m).isSome
 ·have eg:=gc h.len hg
  have en:h_ m=none:=by
   cases hq:h_ m with
   |none=>rfl
   |some x=>rw[hq] at hg;cases hg
  rw[en];rw[hgt,eg] at k1;refine⟨S2,?_,hM,on⟩
  unfold mF Qq at *
  simp?[fx,ha,Df,hMa,k1]
 ·obtain⟨fR,x,ci,c,b1,b2,b3,b4,b5,b6⟩:=fH h.len hg
  have hI:=hM.qH (x:=x) b1 b2 b3
  obtain⟨d,_⟩:=CZ h.nd (c:=c) (by rw[b2];simp)
  have k3:=lE (y:={ x with en:= "closed" }) hI d rfl rfl
  have hi:=hI.i;rw[b6];rw[hgt,b5] at k1;refine⟨_,?_,c9.lJ (x':={ x with en:= "closed" }) hM b1 b2 b3,on.trans (aR.jX λj hj=>?_)⟩
  ·unfold mF Qq iS at *
   simp?[fx,ha,Df,hMa,k1,hi,k3]
  ·unfold fp
   simp only[zan,zbm];exact .inr (.inr (.inr (.inr ⟨c,by rw[b2];simp,hj⟩)))
noncomputable def sA (m:M)(a b:Str):Option Str:=if a∉m.p0++m.p1 then some "team" else if b∈m.kn then some "name" else match h_ m with|none=>none|some x=>if x.eN a=true\/a=x.vX then some "there" else none
theorem JJ (h:c9 S m y)(z:Sz m n)(hn:n<=1000)(a b:Str):G3 [.hd y.a,.str a,.str b] S = .ok (dw (sA m a b)) (S++[.bM ((m.p0++m.p1).map .str)]):=by
 unfold G3 sA;have k1:=PM m.t0 m.t1 m.p0 m.p1 z.p0 z.p1 S;have h':c9 (S++[.bM ((m.p0++m.p1).map .str)]) m y:=h.only (F:=[]) aR.rW (by simp)
 have k2:=fP h' (zai z.pl hn)
 have hL:(S++[Ce.bM ((m.p0++m.p1).map .str)])[S.length]? = some (.bM ((m.p0++m.p1).map .str)):=E7
 generalize S++[.bM ((m.p0++m.p1).map .str)]=S1 at *
 have ha:=h.a;have Ru:=h'.a;have hk':=h'.k;unfold mF at ha Ru;by_cases h1:a∈m.p0++m.p1
 ·by_cases h2:b∈m.kn
  ·simp?[fx,ha,k1,hL,Ru,hk',gj,cH,gi,h1,h2,dw]
  ·cases hg:(h_ m).isSome
   ·have eg:=gc h.len hg
    have en:h_ m=none:=by
     cases hq:h_ m with
     |none=>rfl
     |some x=>rw[hq] at hg;cases hg
    simp?[fx,ha,k1,k2,hL,Ru,hk',gj,cH,gi,h1,h2,en,eg,dw]
   ·obtain⟨fR,x,ci,c,b1,b2,b3,b4,b5,b6⟩:=fH h.len hg
    have hI:=h'.qH b1 b2 b3;have k3:=jZ hI a;have hi:=hI.i;unfold iS at hi;have k4:G2 [.hd c.i,.str a] S1 = .ok (dw (if x.eN a=true\/a=x.vX then some "there" else none)) S1:=by
     unfold G2;cases h3:x.eN a
     ·by_cases h4:a=x.vX
      ·subst h4;simp?[fx,hi,k3,h3,dw]
      ·simp?[fx,hi,k3,h3,h4,dw]
     ·simp?[fx,hi,k3,h3,dw]
    generalize hr:(if x.eN a=true\/a=x.vX then some ("there" : Str) else none)=r at *
    simp?[fx,ha,k1,k2,hL,Ru,hk',gj,cH,gi,h1,h2,b5,b6,k4,hr]
 ·simp?[fx,ha,k1,hL,gj,cH,gi,h1,dw]
noncomputable def Au (m:M):Int:=match m.pl with|x::_=>x.b9|[]=>0
noncomputable def UM (m:M):Bool:=if m.pl.length=2/\2 * m.ru.i=4/\m.Yt=false then decide (0<m.ru.f/\m.ru.f<=lG m (Au m)) else false
noncomputable def nj (m:M):Option Str:=if (h_ m).isSome=true then some "going" else if UM m=true then none else some "follow"
theorem ajF (h:c9 S m y)(z:Sz m n)(hn:n<=1000):G4 [.hd y.a] S = .ok (.bl (UM m)) S:=by
 unfold G4 UM;have hs:m.pl.length<=1000:=zai z.pl hn
 have k1:=E3 h;have k2:=λs=>Am h s hs
 have ha:=h.a;have hp:=h.p;have hz:(y.cs.length<=sizeLine)=True:=aZ (by rw[h.len];omega)
 unfold mF U.t at ha;by_cases h2:m.pl.length=2
 ·have Gj:((y.cs.length:Int)=2)=True:=eq_true (by rw[h.len,h2];rfl)
  by_cases h4:2 * m.ru.i=4
  ·cases hf:m.Yt
   ·have dB:=h.len
    cases hpl:m.pl with
    |nil=>rw[hpl] at h2;cases h2
    |cons x r =>
     cases hcs:y.cs with
     |nil=>rw[hcs,hpl] at dB;cases dB
     |cons c q =>
      have hi:=(h.q8 0 x c (by rw[hpl];rfl) (by rw[hcs];rfl)).i
      unfold iS at hi;have hl:Au m=x.b9:=by unfold Au;rw[hpl]
      rw[hcs] at hp Gj hz;rw[hpl] at h2;rw[zU] at h2 Gj hz;rw[rO] at hp;have UA:((q.map λc:L3=>Tr.hd c.i).length+1<=sizeLine)=True:=by rw[zae];exact hz
      have anG:(((q.map λc:L3=>Tr.hd c.i).length+1:Nat):Int)=2:=by rw[zae];exact of_eq_true Gj
      by_cases h5:0<m.ru.f<;>by_cases h6:m.ru.f<=lG m x.b9 <;>
      simp?[fx,ha,hp,hi,hf,k1,k2,h4,h2,hl,hz,UA,Gj,anG,h5,h6,zU,zae,Dk,Vv,IU,hpl]
   ·simp?[fx,ha,hp,hf,k1,h4,h2,hz,Gj,zae]
  ·simp?[fx,ha,hp,k1,h4,h2,hz,Gj,zae]
 ·have Gj:((y.cs.length:Int)=2)=False:=eq_false (by rw[h.len];omega)
  simp?[fx,ha,hp,h2,hz,Gj,zae]
theorem C2 (h:c9 S m y)(z:Sz m n)(hn:n<=1000):G5 [.hd y.a] S = .ok (dw (nj m)) S:=by
 unfold G5 nj;have k1:=fP h (zai z.pl hn)
 have k2:=ajF h z hn;have ha:=h.a;unfold mF at ha;cases hg:(h_ m).isSome
 ·have eg:=gc h.len hg
  cases hm:UM m<;>simp?[fx,ha,k1,k2,eg,hm,dw]
 ·obtain⟨fR,x,ci,c,b1,b2,b3,b4,b5,b6⟩:=fH h.len hg
  simp?[fx,ha,k1,b5,dw]
end
noncomputable def gV (m:M)(e:bg):Option Str:=if lH m=true then some "done" else match e with
 |.dg t f o b=>mP m t f o b
 |.swap a b=>sA m a b
 |.gU=>nj m
 |.lF=>none
 |e=>fK m e
noncomputable def UN (m:M)(s:Int)(f o b:Str):M:={m with pl:=m.pl++[Aq s f o b]}
noncomputable def PX (m:M)(e:bg):M:=match e with
 |.dg t f o b=>UN m ((Al m t).getD 0) f o b
 |.swap a b=>JH m a b
 |.gU=>{m with Yt:=true}
 |.lF=>JI m
 |e=>match h_ m with|some x=>nZ m x e|none=>m
noncomputable def gM (m:M)(e:bg):M:=pO (PX m e)
theorem B.JK {b:B}{w:Str}(h:b.yE=some w):0<w.length/\w.length<=100:=by
 unfold B.yE at h;split at h
 ·cases h;decide +kernel
 ·split at h
  ·cases h
  ·cases h;decide +kernel
theorem gD (h:fK m e=some w):0<w.length/\w.length<=100:=by
 unfold fK at h;cases hg:h_ m with
 |none=>rw[hg] at h;cases h;decide +kernel
 |some x =>
  rw[hg] at h;cases e with
  |pJ b =>
   change x.nh b=some w at h
   unfold I.nh at h;repeat' split at h
   all_goals first | (cases h;done) | (cases h;decide +kernel) | (cases h;rename_i q;exact B.JK q)
  |q8 k =>
   change x.CV _ k=some w at h
   unfold I.CV at h;repeat' split at h
   all_goals first | (cases h;done) | (cases h;decide +kernel)
  |pK k =>
   change x.pM _ _ k=some w at h
   unfold I.pM at h;repeat' split at h
   all_goals first | (cases h;done) | (cases h;decide +kernel)
  |pL k =>
   change (if x.eN k=true then none else some ("who" : Str))=some w at h
   split at h
   ·cases h
   ·cases h;decide +kernel
  |dg _ _ _ _=>cases h
  |swap _ _=>cases h
  |fO=>cases h
  |gU=>cases h
  |lF=>cases h
theorem C3 (h:gV m e=some w):0<w.length/\w.length<=100:=by
 unfold gV at h;split at h
 ·cases h;decide +kernel
 ·cases e with
  |dg t f o b =>
   simp only at h;unfold mP at h
   repeat' split at h
   all_goals first | (cases h;done) | (cases h;decide +kernel)
  |swap a b =>
   simp only at h;unfold sA at h
   repeat' split at h
   all_goals first | (cases h;done) | (cases h;decide +kernel)
  |gU =>
   simp only at h;unfold nj at h
   repeat' split at h
   all_goals first | (cases h;done) | (cases h;decide +kernel)
  |lF=>cases h
  |pJ b=>exact gD h
  |q8 k=>exact gD h
  |pK k=>exact gD h
  |pL k=>exact gD h
  |fO=>exact gD h
section
variable {S:Cs}{m:M}{y:Ly}{n:Nat}
theorem YC (h:c9 S m y)(z:Sz m n)(hn:n<=1000)(e:bg):∃G,qY [.hd y.a,e.t] S = .ok (dw (gV m e)) (S++G):=by
 by_cases hi:e.yG=true
 ·refine⟨[],?_⟩
  rw[C0 h z hn e hi,zaw];unfold gV;cases e<;>first|rfl | (cases hi;done)
 ·have k1:=An h z hn
  have ha:=h.a;unfold qY gV;unfold mF at ha;cases hd:lH m
  ·cases e with
   |dg t f o b =>
    refine⟨[],?_⟩
    have k2:=E4 h z hn t f o b;unfold bg.t at *
    simp?[fx,ha,k1,hd,k2,zaw]
   |swap a b =>
    refine⟨[.bM ((m.p0++m.p1).map .str)],?_⟩
    have k2:=JJ h z hn a b;unfold bg.t at *
    simp?[fx,ha,k1,hd,k2]
   |gU =>
    refine⟨[],?_⟩
    have k2:=C2 h z hn;unfold bg.t at *
    simp?[fx,ha,k1,hd,k2,zaw]
   |lF =>
    refine⟨[],?_⟩
    unfold bg.t at *
    simp?[fx,ha,k1,hd,zaw,dw]
   |pJ _=>exact absurd rfl hi
   |q8 _=>exact absurd rfl hi
   |pK _=>exact absurd rfl hi
   |pL _=>exact absurd rfl hi
   |fO=>exact absurd rfl hi
  ·refine⟨[],?_⟩
   simp?[fx,ha,k1,hd,zaw,dw]
theorem Sz.beg (z:Sz m n)(hs:s=0\/s=1)(hn:1<=n+1)(f o b:Str):Sz (UN m s f o b) (n+1):=by
 have z':=z.mono (zbb n)
 have hm:∀w∈(UN m s f o b).pl,w∈m.pl\/w=Aq s f o b:=λw hw=>by
  rcases zbL.mp (show w∈m.pl++[Aq s f o b] from hw) with q|q
  ·exact .inl q
  ·exact .inr (by simpa using q)
 refine⟨?_,z'.kn,z'.gK,z'.p0,z'.p1,λw hw=>?_,λw hw=>?_,λw hw=>?_⟩
 ·show (m.pl++[Aq s f o b]).length<=n+1
  have:=z.pl
  simp;exact this
 ·rcases hm w hw with q|rfl
  ·exact z'.outs w q
  ·show 0<=_;omega
 ·rcases hm w hw with q|rfl
  ·exact z'.gG w q
  ·show 1<=_;omega
 ·rcases hm w hw with q|rfl
  ·exact z'.b9 w q
  ·exact hs
theorem HL (hg:h_ m=some x):∃fR,m.pl=fR++[x]/\x.en="" := by
 rcases zcj m.pl with h|⟨fR,w,h⟩
 ·unfold h_ at hg;rw[h] at hg;cases hg
 ·have h:m.pl=fR++[w]:=by simpa using h
  rw[pN h] at hg;split at hg
  ·cases hg;exact⟨fR,h,by assumption⟩
  ·cases hg
theorem Sz.wu (z:Sz m n)(a b:Str):Sz (wu m a b) (n+1):=by
 have z':=z.mono (zbb n)
 exact⟨z'.pl,by have:=z.kn;simp[My.wu];omega,z'.gK,by have:=z.p0;simpa[My.wu] using this,by have:=z.p1;simpa[My.wu] using this,z'.outs,z'.gG,z'.b9⟩
theorem Sz.sw (z:Sz m n)(a b:Str):Sz (JH m a b) (n+1):=by
 unfold JH;cases hg:h_ m with
 |none=>exact z.wu a b
 |some x =>
  obtain⟨fR,e,_⟩:=HL hg;have hx:x∈m.pl:=by rw[e];simp
  have h1:=z.outs x hx;have h2:=z.gG x hx;exact (z.wu a b).lJ (x:=x) (x':=x.ni a b) e rfl (zai PN (by omega)) (zai PR (by omega))
theorem Sz.cl (z:Sz m n):Sz (JI m) n:=by
 unfold JI;have zb:Sz (Qq m) n:=⟨z.pl,z.kn,z.gK,z.p0,z.p1,z.outs,z.gG,z.b9⟩
 cases hg:h_ m with
 |none=>exact zb
 |some x =>
  obtain⟨fR,e,_⟩:=HL hg;have hx:x∈m.pl:=by rw[e];simp
  exact zb.lJ (x:=x) (x':={ x with en:= "closed" }) e rfl (z.outs x hx) (z.gG x hx)
structure PY (S:Cs) (y:Ly) (S':Cs) (m':M) (y':Ly):Prop where
 yK:c9 S' m' y'
 on:aR (fp y) S S'
 a:y'.a=y.a
 fp:∀j∈fp y',j∈My.fp y\/S.length<=j
theorem ajG (h:c9 S m y)(z:Sz m n)(hn:n+1<=1000)(e:bg)(hr:gV m e=none):∃S' y',vM [.hd y.a,e.t] S = .ok .br S'/\PY S y S' (PX m e) y'/\Sz (PX m e) (n+1):=by
 have ha:=h.a;unfold mF at ha;have k1:=fP h (zai z.pl (by omega))
 by_cases hi:e.yG=true
 ·have ql:fK m e=none:=by
   unfold gV at hr;split at hr
   ·cases hr
   ·cases e<;>first|exact hr | (cases hi;done)
  unfold fK at ql;cases hg:h_ m with
  |none=>rw[hg] at ql;cases ql
  |some x =>
   obtain⟨fR,x2,ci,c,b1,b2,b3,b4,b5,b6⟩:=fH h.len (by rw[hg];rfl)
   rw[hg] at b6;cases b6;obtain⟨S1,k2,k3,k4⟩:=anx h z (by omega) b1 b2 b3 b4 e hi
   have ed:PX m e=nZ m x e:=by unfold PX;rw[hg];cases e<;>first|rfl | (cases hi;done)
   rw[ed];exact⟨S1,y,k2,⟨k3,k4,rfl,λj hj=>.inl hj⟩,z.nZ b1 e⟩
 ·unfold gV at hr
  split at hr
  ·cases hr
  ·unfold vM
   cases e with
   |dg t f o b =>
    simp only at hr
    unfold mP at hr;split at hr
    ·cases hr
    ·rename_i hgo
     cases hs:Al m t with
     |none=>rw[hs] at hr;cases hr
     |some s =>
      have k4:=UG h z (by omega) t f o b s hs
      have hM:=h.ajy s f o b;have ed:PX m (.dg t f o b)=UN m s f o b:=by unfold PX;simp only;rw[hs];rfl
      rw[ed];refine⟨_,_,?_,⟨hM,aR.trans aR.rW (aR.set (by simp[fp])),rfl,λj hj=>?_⟩,z.beg (Yy hs) (by omega) f o b⟩
      ·unfold bg.t at *
       simp?[fx,ha,k4,k1]
      ·have Vh:fp {y with cs:=y.cs++[jz S.length]}=fp y++[S.length,S.length+1,S.length+2]:=by
        unfold fp;simp[k8,jz]
       rw[Vh] at hj;rcases zbL.mp hj with q|q
       ·exact .inl q
       ·simp at q;exact .inr (by omega)
   |swap a b =>
    obtain⟨S',y',k2,k3,k4,k5,k6⟩:=UK h z hn a b;refine⟨S',y',?_,⟨k3,k4,k5,k6⟩,z.sw a b⟩
    unfold bg.t;simp?[fx,ha,k1,k2]
   |gU =>
    have hM:=h.ajE {m with Yt:=true} rfl rfl rfl
    refine⟨_,y,?_,⟨hM,aR.set (by simp[fp]),rfl,λj hj=>.inl hj⟩,(show Sz {m with Yt:=true} (n+1) from let z':=z.mono (zbb n);⟨z'.pl,z'.kn,z'.gK,z'.p0,z'.p1,z'.outs,z'.gG,z'.b9⟩)⟩
    unfold bg.t mF;simp?[fx,ha,k1]
   |lF =>
    obtain⟨S',k2,k3,k4⟩:=UL h z (by omega)
    refine⟨S',y,?_,⟨k3,k4,rfl,λj hj=>.inl hj⟩,z.cl.mono (zbb n)⟩
    unfold bg.t;simp?[fx,ha,k1,k2]
   |pJ _=>exact absurd rfl hi
   |q8 _=>exact absurd rfl hi
   |pK _=>exact absurd rfl hi
   |pL _=>exact absurd rfl hi
   |fO=>exact absurd rfl hi
theorem aR.fresh (a:aR F S S')(b:aR F' S' S'')(h:∀j∈F',j∈F\/S.length<=j):aR F S S'':=⟨zai a.1 b.1,λj h1 h2=>by
 rw[b.2 j (zak h1 a.1) λq=>(h j q).elim h2 λk=>by omega,a.2 j h1 h2]⟩
theorem Av (h:c9 S m y)(z:Sz m n)(hn:n+1<=1000)(e:bg)(hr:gV m e=none):∃S' y',lD [.hd y.a,e.t] S = .ok .br S'/\PY S y S' (gM m e) y'/\Sz (gM m e) (n+1):=by
 obtain⟨G,k1⟩:=YC h z (by omega) e
 rw[hr] at k1;have h0:c9 (S++G) m y:=h.only (F:=[]) aR.rW (by simp)
 obtain⟨S1,y1,k2,k3,k4⟩:=ajG h0 z hn e hr;obtain⟨S',k5,k6,k7⟩:=E8 h z e.t k1 h0 k3.a k2 k3.yK k4 hn;have k3f:∀j∈fp y1,j∈fp y\/S.length<=j:=λj hj=>(k3.fp j hj).imp id λq=>by rw[zag] at q;omega
 exact⟨S',y1,k5,⟨k6,((aR.rW (F:=fp y)).trans k3.on).fresh k7 k3f,k3.a,k3f⟩,k4.eO⟩
theorem Aw (h:c9 S m y)(z:Sz m n)(hn:n+1<=1000)(e:bg)(w:Str)(hr:gV m e=some w):∃S0,amS S S0/\lD [.hd y.a,e.t] S = .ex S0.length (S0++[.rF "NotLet" [("rule",.str w),("number",.int 0)]]):=by
 obtain⟨G,k1⟩:=YC h z (by omega) e
 rw[hr] at k1;exact⟨S++G,⟨G,rfl⟩,JF w (C3 hr).2 e.t h.a k1⟩
end
theorem vQ {α:Type}{l:List α}{i:Int}(h0:0<=i)(h1:i<l.length):∃x∈l,iz l i=some x:=by
 obtain⟨j,hj⟩:=zbd h0;have Gu:j<l.length:=by omega
 exact⟨l[j],zcn Gu,by rw[hj];exact gy (zad Gu)⟩
theorem gW {l:List Str}{i:Int}(h0:0<=i)(h1:i<l.length):∃x∈l,iz (l.map Tr.str) i=some (.str x):=by
 obtain⟨t,ht,e⟩:=vQ (l:=l.map Tr.str) h0 (by simpa using h1)
 obtain⟨x,hx,rfl⟩:=zbl.mp ht;exact⟨x,hx,e⟩
theorem HM {l:List Str}{n m:Int}(hm:m=l.length)(h0:0<m):∃x∈l,iz (l.map Tr.str) (n % m)=some (.str x):=gW (zcS _ (by omega)) (by rw[<-hm];exact zcC _ h0)
noncomputable def YD:List Str:=["bat","bat","bat","bye","leg","wide","no","nobye"]
noncomputable def vR (m:M):Str:=match lI m with|none => "" |some s=>jc m s
noncomputable def fL (m:M)(x:I):Tr:=.tp [.str (jc m x.b9),.int x.CS,.int x.wk,.int x.ov,.int x.ba,.str x.en]
structure YE where
 a:Int
 b:Int
 c:Int
 f:Str
 o:Str
 w:Str
 e:B
 q:Str
noncomputable def YE.t (r:YE):Tr:=.tp [.int r.a,.int r.b,.int r.c,.str r.f,.str r.o,.str r.w,r.e.t,.str r.q]
section
variable {S:Cs}{m:M}{y:Ly}{n:Nat}
theorem yL (h:c9 S m y)(z:Sz m n):CB [.hd y.a] S = .ok (aB m.t0 m.t1 m.p0 m.p1) S:=by
 unfold CB;have ha:=h.a;unfold mF aB at *
 simp?[fx,ha]
theorem Fb (z:Sz m n):f_ m=0\/f_ m=1:=by
 unfold f_;cases h:m.pl.getLast? with
 |none=>exact .inl rfl
 |some x=>exact z.b9 x (List.mem_of_getLast? h)
theorem aeu (z:Sz m n)(e:lI m=some s):s=0\/s=1:=by
 unfold lI at e
 have:=Fb z
 repeat' split at e
 all_goals first | (cases e;done) | (cases e;omega)
theorem PZ (h:c9 S m y)(z:Sz m n)(hn:n<=1000):vL [.hd y.a] S = .ok (.str (vR m)) S:=by
 unfold vL vR;have k1:=Pz h z hn;have ha:=h.a;unfold mF aB at *
 cases hq:lI m with
 |none=>rw[hq] at k1;simp?[fx,ha,k1,lP]
 |some s =>
  rw[hq] at k1;have k2:=@mO m s (aeu z hq)
  simp?[fx,ha,k1,lP,k2]
theorem ajH (h:c9 S m y){rs:List YE}(hr:m.gK=rs.map YE.t):HD [.hd y.a] S = .ok (.ls m.gK) S:=by
 unfold HD;have ha:=h.a;have hl:=h.l;unfold mF at ha;refine fF (S1:=S) (t:=.ls m.gK) ?_ (zaF ..) ?_
 ·simp?[fx,ha,hl]
 ·unfold nN
  have:Tr.aE S.length (.ls m.gK)=true:=by
   rw[aa5,zaK,hr];intro t ht;obtain⟨r,_,rfl⟩:=zbl.mp ht;unfold YE.t B.t;simp only[nO,kQ,o_,MC,zay,zaN,zaU]
  simp only[this];rfl
theorem yM (h:c9 S m y)(z:Sz m n)(hn:n<=1000):CD [.hd y.a] S = .ok (.ls (m.pl.map (fL m))) S:=by
 unfold CD;refine fF (S1:=S++[.bM (m.pl.map (fL m))]) (t:=.hd S.length) ?_ (xo _ _) ?_
 ·have ha:=h.a
  have hp:=h.p;have dB:=h.len;have hpl:=z.pl;unfold mF aB at ha;have lp:=aK h.p;have la:=aK h.a;simp?[fx,ha,hp];have hp1:(S++[Ce.bM []])[y.p]? = some (.bM (y.cs.map λc=>.hd c.i)):=by rw[zaj lp];exact hp
  have LH:∀q,(S++[Ce.bM q])[y.a]? = some (.dZ "Match" (mF m y)):=λq=>by rw[zaj la];exact h.a
  unfold mF aB at LH;simp?[fx,LH,hp1];generalize hZ:fV _ _ _ _ _ _=Z
  obtain⟨τ,S',hI,rfl⟩:=gQ hZ (λi τ S'=>(∃v,τ=[some (.hd y.a),some (.hd S.length),v])/\S'=S++[.bM ((m.pl.take i).map (fL m))]) (λi τ S' hh=>by
   show cL S' y.p=_
   rw[hh.2];unfold cL;rw[zaj lp,hp]) ⟨⟨_,rfl⟩,by simp⟩ (λi t τ S' ht hh=>by
   obtain⟨⟨v,rfl⟩,rfl⟩:=hh
   rw[zaq] at ht;cases hc:y.cs[i]? with
   |none=>rw[hc] at ht;cases ht
   |some c =>
    rw[hc] at ht;cases ht;have hi:i<m.pl.length:=by rw[<-dB];exact (zab.mp hc).1
    have hx:=zad hi
    generalize hxx:m.pl[i]=x at hx
    have hI:=(h.q8 i x c hx hc).i
    have k2:=@mO m x.b9 (z.b9 x (by rw[<-hxx];exact zcn hi))
    have hI1:∀q,(S++[Ce.bM q])[c.i]? = some (.dZ "Innings" (iS x c)):=λq=>by rw[zaj (aK hI)];exact hI
    have hz:((m.pl.take i).length<sizeLine)=True:=iZ (by simp;omega)
    unfold iS at hI1;refine⟨[some (.hd y.a),some (.hd S.length),some (.hd c.i)],_,.inl ?_,⟨_,rfl⟩,rfl⟩
    have et:(m.pl.take (i+1)).map (fL m)=(m.pl.take i).map (fL m)++[fL m x]:=by rw[zdZ,hx];simp
    rw[et];unfold fL;simp?[fx,LH,hI1,k2,E7,sa0,hz])
  obtain⟨⟨v,rfl⟩,rfl⟩:=hI
  have el:(y.cs.map λc:L3=>Tr.hd c.i).length=m.pl.length:=by simpa using dB
  rw[el,zaF];simp only[↓bp,bx,simprocAttr]
 ·unfold nN
  have hq:cL (S++[.bM (m.pl.map (fL m))]) S.length=some (m.pl.map (fL m)):=by unfold cL;rw[E7]
  have:((m.pl.map (fL m)).all (Tr.aE S.length))=true:=by
   rw[zaK];intro t ht;obtain⟨r,_,rfl⟩:=zbl.mp ht;unfold fL;simp only[nO,kQ,o_,zay,zaN,zaU]
  simp only[hq,zaJ,if_false,fZ,this,if_true]
end
structure Dr (m:M) (d n:Nat):Prop where
 z:Sz m n
 hn:n<=1000
 p0:m.p0.length=d
 p1:m.p1.length=d
 d2:2<=d
 k9:d<=11
 rs:∃rs:List YE,m.gK=rs.map YE.t
theorem YF:jc m s=m.t0\/jc m s=m.t1:=by unfold jc;split<;>simp
theorem UO (D:Dr m d n)(s:Int):(iy m s).length=d:=by
 unfold iy;split
 ·exact D.p0
 ·exact D.p1
theorem UP (m:M):(pO m).gK=m.gK:=by unfold pO;split<;>rfl
theorem aev (m:M):(pO m).p0=m.p0:=by unfold pO;split<;>rfl
theorem aew (m:M):(pO m).p1=m.p1:=by unfold pO;split<;>rfl
theorem ajI (m:M)(a b:Str):(JH m a b).p0=m.p0.map (ni a b)/\(JH m a b).p1=m.p1.map (ni a b)/\(JH m a b).gK=m.gK:=by unfold JH;split<;>exact⟨rfl,rfl,rfl⟩
theorem ajJ (m:M):(JI m).p0=m.p0/\(JI m).p1=m.p1/\(JI m).gK=m.gK:=by unfold JI;split<;>exact⟨rfl,rfl,rfl⟩
theorem aex (m:M)(x:I)(e:bg):(nZ m x e).p0=m.p0/\(nZ m x e).p1=m.p1/\((nZ m x e).gK=m.gK\/∃b,(nZ m x e).gK=m.gK++[jd m x b]):=by
 unfold nZ;split
 ·exact⟨rfl,rfl,.inr ⟨_,rfl⟩⟩
 all_goals exact⟨rfl,rfl,.inl rfl⟩
theorem ajK (m:M)(e:bg):(PX m e).p0.length=m.p0.length/\(PX m e).p1.length=m.p1.length/\((PX m e).gK=m.gK\/∃x b,(PX m e).gK=m.gK++[jd m x b]):=by
 have Eh:∀e,(match h_ m with|some x=>nZ m x e|none=>m).p0.length=m.p0.length/\(match h_ m with|some x=>nZ m x e|none=>m).p1.length=m.p1.length/\((match h_ m with|some x=>nZ m x e|none=>m).gK=m.gK\/∃x b,(match h_ m with|some x=>nZ m x e|none=>m).gK=m.gK++[jd m x b]):=λe=>by
  cases h_ m with
  |none=>exact⟨rfl,rfl,.inl rfl⟩
  |some x =>
   obtain⟨h1,h2,h3⟩:=aex m x e;exact⟨by simp only[h1],by simp only[h2],h3.imp id λ⟨b,q⟩=>⟨x,b,q⟩⟩
 cases e with
 |dg t f o b=>exact⟨rfl,rfl,.inl rfl⟩
 |swap a b =>
  obtain⟨h1,h2,h3⟩:=ajI m a b;show (JH m a b).p0.length=_/\(JH m a b).p1.length=_/\((JH m a b).gK=_\/∃x c,(JH m a b).gK=m.gK++[jd m x c])
  rw[h1,h2,h3];exact⟨by simp,by simp,.inl rfl⟩
 |gU=>exact⟨rfl,rfl,.inl rfl⟩
 |lF =>
  obtain⟨h1,h2,h3⟩:=ajJ m;show (JI m).p0.length=_/\(JI m).p1.length=_/\((JI m).gK=_\/∃x c,(JI m).gK=m.gK++[jd m x c])
  rw[h1,h2,h3];exact⟨rfl,rfl,.inl rfl⟩
 |pJ b=>exact Eh _
 |q8 b=>exact Eh _
 |pK b=>exact Eh _
 |pL b=>exact Eh _
 |fO=>exact Eh _
theorem Dr.UQ (D:Dr m d n)(e:bg)(z:Sz (gM m e) (n+1))(hn:n+1<=1000):Dr (gM m e) d (n+1):=by
 obtain⟨h1,h2,h3⟩:=ajK m e;refine⟨z,hn,?_,?_,D.d2,D.k9,?_⟩
 ·unfold gM;rw[aev,h1,D.p0]
 ·unfold gM;rw[aew,h2,D.p1]
 ·unfold gM
  rw[UP];obtain⟨rs,er⟩:=D.rs;rcases h3 with q|⟨x,b,q⟩
  ·exact⟨rs,by rw[q,er]⟩
  ·refine⟨rs++[⟨(m.pl.length:Int) - 1,x.ov,x.ba,x.nA,x.vN,x.vX,b,x.DX b⟩],?_⟩
   rw[q,er,zaE];rfl
theorem Dr.mono (D:Dr m d n)(h:n<=n')(hn:n'<=1000):Dr m d n':=⟨D.z.mono h,hn,D.p0,D.p1,D.d2,D.k9,D.rs⟩
theorem yN:∀{l:List Tr},(∀t∈l,t.dp<=n)->Tr.pR l<=n
 |[],_=>by unfold Tr.pR;exact zcG _
 |t::l,h=>by
  unfold Tr.pR;exact Nat.max_le.mpr ⟨h t (by simp),yN λu hu=>h u (by simp[hu])⟩
theorem P0:∀{l:List Tr} {t:Tr},t∈l->t.dp<=Tr.pR l
 |u::l,t,h=>by
  unfold Tr.pR;rcases zan.mp h with rfl|h
  ·exact Nat.le_max_left ..
  ·exact zai (P0 h) (Nat.le_max_right ..)
theorem YG (S:Cs):∀(n:Nat) (t:Tr),t.lQ=true->t.dp<=n->vw n S t=t
 |0,t,_,_=>by cases t<;>rfl
 |n+1,t,h,hd=>by
  have key:∀l:List Tr,Tr.jA l=true->Tr.pR l<=n->l.map (vw n S)=l:=λl h1 h2=>by
   rw[f9,zaK] at h1;have:l.map (vw n S)=l.map _root_.id:=zbY λt ht=>YG S n t (h1 t ht) (zai (P0 ht) h2)
   rw[this,List.map_id]
  cases t with
  |tp l =>
   unfold Tr.lQ at h;unfold Tr.dp at hd;show Tr.tp (l.map (vw n S))=_
   rw[key l h (by omega)]
  |ls l =>
   unfold Tr.lQ at h;unfold Tr.dp at hd;show Tr.ls (l.map (vw n S))=_
   rw[key l h (by omega)]
  |hd i=>unfold Tr.lQ at h;cases h
  |kl l=>unfold Tr.lQ at h;cases h
  |kt l=>unfold Tr.lQ at h;cases h
  |_=>rfl
noncomputable def HN (S:Cs)(t:Tr)(l:List Tr):Prop:=t = .ls l\/∃k,t = .hd k/\S[k]? = some (.bM l)
theorem HN.vw (h:HN S t l)(hn:Tr.jA l=true)(hd:Tr.pR l<=5):vw 6 S t = .ls l:=by
 have key:l.map (L2.vw 5 S)=l:=by
  rw[f9,zaK] at hn;have:l.map (L2.vw 5 S)=l.map _root_.id:=zbY λt ht=>YG S 5 t (hn t ht) (zai (P0 ht) hd)
  rw[this,List.map_id]
 rcases h with rfl|⟨k,rfl,hk⟩
 ·show Tr.ls (l.map (L2.vw 5 S))=_
  rw[key]
 ·show (match cL S k with|some l=>Tr.ls (l.map (L2.vw 5 S))|none=>.hd k)=_
  have:cL S k=some l:=by unfold cL;rw[hk]
  rw[this];simp only[key]
theorem C4 (h1:HN S t1 l)(h2:HN S t2 l)(hn:Tr.jA l=true)(hd:Tr.pR l<=5):cR neg t1 t2 S = .ok (.bl (!neg)) S:=by
 have e1:=h1.vw hn hd;have e2:=h2.vw hn hd;have e0:IX t1 t2=none:=by
  rcases h1 with rfl|⟨k,rfl,_⟩<;>rcases h2 with rfl|⟨k,rfl,_⟩<;>rfl
 unfold cR;rw[e0];simp only
 rw[e1,e2,if_pos];refine⟨rfl,by unfold Tr.lQ;exact hn,by unfold Tr.dp;omega,by unfold Tr.dp;omega⟩
noncomputable def wz (m:M):Tr:=if lH m=false then .br else if m.clo=true then .tp [.str "closed"] else if lG m 0=0 then .tp [.str "tie"] else .tp [.str "won",.str (jc m (if 0<lG m 0 then 0 else 1))]
theorem YH (h:c9 S m y)(z:Sz m n)(hn:n<=1000):Cz [.hd y.a] S = .ok (wz m) S:=by
 unfold Cz wz;have k1:=An h z hn;have k2:=Am h 0 (zai z.pl hn)
 have ha:=h.a;unfold mF aB at ha;cases hd:lH m with
 |false =>
  rw[hd] at k1;rw[if_pos rfl];refine fF (S1:=S) (t:=.br) ?_ (zaF ..) (by unfold nN;simp only[Gr];rfl)
  simp?[fx,ha,k1]
 |true =>
  rw[hd] at k1;rw[if_neg (by simp)]
  cases hc:m.clo with
  |true =>
   rw[hc] at ha;rw[if_pos rfl];refine fF (S1:=S) (t:=.tp [.str "closed"]) ?_ (zaF ..) (by unfold nN;simp only[fZ,nO,kQ,zay,zaN,zaU];rfl)
   simp?[fx,ha,k1]
  |false =>
   rw[hc] at ha;rw[if_neg (by simp)]
   by_cases h0:lG m 0=0
   ·rw[if_pos h0]
    rw[h0] at k2;refine fF (S1:=S) (t:=.tp [.str "tie"]) ?_ (zaF ..) (by unfold nN;simp only[fZ,nO,kQ,zay,zaN,zaU];rfl)
    simp?[fx,ha,k1,k2]
   ·rw[if_neg h0]
    refine fF (S1:=S) (t:=.tp [.str "won",.str (jc m (if 0<lG m 0 then 0 else 1))]) ?_ (zaF ..) (by unfold nN;simp only[fZ,nO,kQ,zay,zaN,zaU];rfl)
    by_cases hp:0<lG m 0<;>simp?[fx,ha,k1,k2,h0,hp,D8,jc]
noncomputable def Fc (m:M):Tr:=.ls [jE m,.ls (m.pl.map (fL m)),.str (vR m),aB m.t0 m.t1 m.p0 m.p1,wz m,.ls m.gK]
theorem YI (h:c9 S m y)(D:Dr m d n):CQ [.hd y.a] S = .ok (Fc m) S:=by
 obtain⟨rs,hr⟩:=D.rs;have k1:=HK h D.z D.hn;have k2:=yM h D.z D.hn;have k3:=PZ h D.z D.hn;have k4:=yL h D.z;have k5:=YH h D.z D.hn;have k6:=ajH h hr;have ha:=h.a;unfold mF at ha;unfold CQ Fc;simp?[fx,ha,k1,k2,k3,k4,k5,k6]
theorem C5 (l:List Str):Tr.jA (l.map .str)=true:=by
 rw[f9,zdD,zaK];intro _ _;rfl
theorem HP (l:List Str):Tr.pR (l.map .str)<=1:=yN λt ht=>by
 obtain⟨r,_,rfl⟩:=zbl.mp ht;simp[Tr.dp]
theorem UR (D:Dr m d n):∃l,Fc m = .ls l/\Tr.jA l=true/\Tr.pR l<=5:=by
 obtain⟨rs,hr⟩:=D.rs;have n1:(jE m).lQ=true/\(jE m).dp<=4:=by
  unfold jE;split<;>exact⟨by rfl,by simp[Tr.dp,Tr.pR]⟩
 have n2:Tr.jA (m.pl.map (fL m))=true/\Tr.pR (m.pl.map (fL m))<=3:=by
  refine⟨?_,yN λt ht=>?_⟩
  ·rw[f9,zdD,zaK]
   intro _ _;rfl
  ·obtain⟨r,_,rfl⟩:=zbl.mp ht
   simp[fL,Tr.dp,Tr.pR]
 have n3:Tr.jA m.gK=true/\Tr.pR m.gK<=4:=by
  rw[hr];refine⟨?_,yN λt ht=>?_⟩
  ·rw[f9,zdD,zaK]
   intro _ _;rfl
  ·obtain⟨r,_,rfl⟩:=zbl.mp ht
   simp[YE.t,B.t,Tr.dp,Tr.pR]
 have n4:(wz m).lQ=true/\(wz m).dp<=4:=by
  unfold wz;repeat' split
  all_goals exact⟨by rfl,by simp[Tr.dp,Tr.pR]⟩
 have n5:=C5 m.p0;have n6:=C5 m.p1;have d5:=HP m.p0;have d6:=HP m.p1;refine⟨_,rfl,?_,?_⟩
 ·simp only[f9,zay,zaN,zdo,zbe]
  refine⟨n1.1,?_,rfl,?_,n4.1,?_⟩
  ·unfold Tr.lQ;exact n2.1
  ·unfold aB Tr.lQ
   simp only[f9,zay,zaN,zdo,zbe];refine⟨?_,?_⟩<;>unfold Tr.lQ<;>simp only[f9,zay,zaN,zdo,zbe]<;>refine⟨rfl,?_⟩<;>unfold Tr.lQ
   ·exact n5
   ·exact n6
  ·unfold Tr.lQ;exact n3.1
 ·refine yN λt ht=>?_
  simp only[zan,zaL,or_false] at ht;rcases ht with rfl|rfl|rfl|rfl|rfl|rfl
  ·omega
  ·unfold Tr.dp;omega
  ·unfold Tr.dp;omega
  ·unfold aB
   simp only[Tr.dp,Tr.pR];omega
  ·omega
  ·unfold Tr.dp;omega
theorem aey (D:Dr m d n)(neg:Bool)(S:Cs):cR neg (Fc m) (Fc m) S = .ok (.bl (!neg)) S:=by
 obtain⟨l,e,h1,h2⟩:=UR D;rw[e];exact C4 (.inl rfl) (.inl rfl) h1 h2
noncomputable def dig (c:Int):Nat->Int
 |0=>c
 |n+1=>dig c n / 60
theorem US (c:Int)(a0:0<=a)(a1:a<1000)(h0:0<cW)(h1:cW<1000000)(S:Cs):GY [.int c,.int a,.int cW] S = .ok (.int (dig c a.toNat % cW)) S:=by
 obtain⟨n,rfl⟩:=zbd a0;have c1:(0<cW)=True:=eq_true h0
 have c2:(cW<1073741824)=True:=eq_true (by omega)
 have hr:(-4611686018427387904<=(n:Int)/\(n:Int)<4611686018427387904)=True:=eq_true (by omega)
 unfold GY;rw[zbo];simp?[hr,zbo];generalize hZ:fV _ _ _ _ _ _=Z
 obtain⟨τ,S',⟨⟨v,rfl⟩,rfl⟩,rfl⟩:=gQ hZ (λi τ S'=>(∃v,τ=[some (.int (dig c i)),some (.int (n:Int)),some (.int cW),v])/\S'=S) (λ_ _ _ _=>trivial) ⟨⟨_,rfl⟩,rfl⟩ (by
  rintro i t τ S' ht ⟨⟨v,rfl⟩,rfl⟩
  obtain⟨jg,rfl⟩:=pe ht;refine⟨[some (.int (dig c i / 60)),some (.int (n:Int)),some (.int cW),some (.int (0+(i:Int)))],S',.inl ?_,⟨_,rfl⟩,rfl⟩
  simp only[↓bp,bx,simprocAttr])
 rw[pq];simp?[c1,c2]
noncomputable def dv (cs:List Int)(k cW:Int):Int:=
 let c:=(iz cs (k % (cs.length:Int))).getD 0
 if cs.length % 2=1 then dig c (k / (cs.length:Int) % 20).toNat % cW else (c % 2147483647+7 * k+3) * (48271+1103 * k * k) % 2147483629 / 64 % cW
theorem yO (cs:List Int)(k:Int)(h0:0<cW):0<=dv cs k cW/\dv cs k cW<cW:=by
 unfold dv;dsimp only;split<;>exact⟨zcS _ (by omega),zcC _ h0⟩
theorem C6:iz (cs.map Tr.int) i=(iz cs i).map Tr.int:=by
 unfold iz;rw[zae];cases AA cs.length i with
 |none=>rfl
 |some j=>simp
theorem qI (cs:List Int)(hl:cs.length<=100)(k0:0<=k)(k1:k<10000)(h0:0<cW)(h1:cW<1000000)(S:Cs):cG [.ls (cs.map .int),.int k,.int cW] S = .ok (.int (dv cs k cW)) S:=by
 have c1:(0<cW)=True:=eq_true h0
 have c2:(cW<1073741824)=True:=eq_true (by omega)
 have z1:(cs.length<=sizeLine)=True:=aZ (by omega)
 unfold cG dv;dsimp only;cases cs with
 |nil =>
  have e0:iz ([]:List Int) (k % ((0:Nat):Int))=none:=by
   unfold iz AA;repeat' split
   all_goals simp
  rw[if_neg (by decide)]
  simp only[Es] at e0 ⊢
  rw[e0];simp?[c1,c2,D8,zbF,zV];rw[oQ (by omega),oQ (by omega)]
 |cons x r =>
  have hp:(0<((r.length+1:Nat):Int))=True:=eq_true (by omega)
  have hl':r.length+1<=100:=by simpa using hl
  have hq:(((r.length+1:Nat):Int)<1073741824)=True:=eq_true (by omega)
  obtain⟨c,_,ec⟩:=zF (l:=x::r) (n:=k) (m:=((r.length+1:Nat):Int)) (by simp) (by omega)
  have et:iz ((x::r).map Tr.int) (k % ((r.length+1:Nat):Int))=some (.int c):=by rw[C6,ec];rfl
  have ed:=λS=>US c (a:=k / ((r.length+1:Nat):Int) % 20) (zcS _ (by decide)) (Int.lt_trans (zcC _ (by decide)) (by decide)) h0 h1 S
  simp only[zU] at *
  rw[ec,zbU];generalize hX:(x::r).map Tr.int=X at *
  have lX:X.length=r.length+1:=by rw[<-hX];simp
  by_cases q:(r.length+1) % 2=1
  ·have q':((r.length+1:Nat):Int) % 2=1:=by omega
   rw[if_pos q];simp?[c1,c2,z1,D8,lX,hp,hq,et,q',ed]
  ·have q':¬ ((r.length+1:Nat):Int) % 2=1:=by omega
   rw[if_neg q];simp?[c1,c2,z1,D8,lX,hp,hq,et,q'];rw[oQ (by omega),oQ (by omega)]
theorem vS {l:List Int}{i:Int}(h0:0<=i)(h1:i<l.length):∃x∈l,iz (l.map Tr.int) i=some (.int x):=by
 obtain⟨t,ht,e⟩:=vQ (l:=l.map Tr.int) h0 (by simpa using h1)
 obtain⟨x,hx,rfl⟩:=zbl.mp ht;exact⟨x,hx,e⟩
theorem P1 (cs:List Int)(hl:cs.length<=100)(S:Cs):∃u:U,GZ [.ls (cs.map .int)] S = .ok u.t S/\2<=u.d/\u.d<=11:=by
 have D:=λ(k cW:Int) (k0:0<=k) (k1:k<10000) (h0:0<cW) (h1:cW<1000000)=>And.intro (yO cs k h0) (qI cs hl k0 k1 h0 h1 S)
 obtain⟨⟨a1,b1⟩,e1⟩:=D 900 3 (by decide) (by decide) (by decide) (by decide)
 obtain⟨⟨a2,b2⟩,e2⟩:=D 901 5 (by decide) (by decide) (by decide) (by decide)
 obtain⟨⟨a3,b3⟩,e3⟩:=D 902 4 (by decide) (by decide) (by decide) (by decide)
 obtain⟨⟨a4,b4⟩,e4⟩:=D 903 4 (by decide) (by decide) (by decide) (by decide)
 obtain⟨⟨a5,b5⟩,e5⟩:=D 904 3 (by decide) (by decide) (by decide) (by decide)
 obtain⟨⟨a6,b6⟩,e6⟩:=D 905 3 (by decide) (by decide) (by decide) (by decide)
 obtain⟨⟨a7,b7⟩,e7⟩:=D 906 8 (by decide) (by decide) (by decide) (by decide)
 obtain⟨⟨a8,b8⟩,e8⟩:=D 907 2 (by decide) (by decide) (by decide) (by decide)
 obtain⟨x2,_,f2⟩:=vS (l:=[0,1,2,3,4]) a2 b2
 obtain⟨x3,_,f3⟩:=vS (l:=[0,0,1,2]) a3 b3
 obtain⟨x4,_,f4⟩:=vS (l:=[0,1,3,8]) a4 b4
 obtain⟨x7,hx,f7⟩:=vS (l:=[2,3,4,2,3,4,9,11]) a7 b7
 have h7:2<=x7/\x7<=11:=by
  simp only[zan,zaL,or_false] at hx;omega
 simp only[rO,zV] at f2 f3 f4 f7;refine⟨⟨1+dv cs 900 3,x2,x3,dv cs 904 3,dv cs 905 3,x7,1+dv cs 907 2,x4⟩,?_,h7⟩
 unfold GZ U.t;generalize cs.map Tr.int=X at *
 simp?[e1,e2,e3,e4,e5,e6,e7,e8,f2,f3,f4,f7]
noncomputable def P4:Str:= "bcdfghjkmnpqvwxz"
theorem UT (i:Int):∃c,iz P4.cps.toList (i % 16)=some c:=by
 obtain⟨c,_,e⟩:=zF (l:=P4.cps.toList) (n:=i) (m:=16) (by decide +kernel) (by decide)
 exact⟨c,e⟩
theorem aez {v:Int}(h0:0<=v)(h1:v<2):(sZ (Str.ofString "zq") v.toNat).length<=9/\(Str.ofString "zq").length * v.toNat<=1000000:=by
 have h:∀n:Fin 5,(sZ (Str.ofString "zq") n).length<=9:=by decide +kernel
 have e:(Str.ofString "zq").length=2:=by decide +kernel
 exact⟨h ⟨v.toNat,by omega⟩,by rw[e];omega⟩
theorem aeA (h0:0<=v)(h1:v<4):(Txt.slice (Str.ofString "vzb") none (some v)).length<=9:=by
 have h:∀n:Fin 5,(Txt.slice (Str.ofString "vzb") none (some ((n:Nat):Int))).length<=9:=by decide +kernel
 have:=h ⟨v.toNat,by omega⟩
 simpa[Int.toNat_of_nonneg h0] using this
theorem P5 (cs:List Int)(hl:cs.length<=100)(sd:Nat)(h2:2<=sd)(h11:sd<=11)(S:Cs):∃(t0 t1:Str) (p0 p1:List Str),G0 [.ls (cs.map .int),.int sd] S = .ok (aB t0 t1 p0 p1) S/\p0.length=sd/\p1.length=sd:=by
 have D:=λ(k cW:Int) (k0:0<=k) (k1:k<10000) (h0:0<cW) (h1:cW<1000000)=>And.intro (yO cs k h0) (qI cs hl k0 k1 h0 h1 S)
 obtain⟨⟨a1,b1⟩,e1⟩:=D 908 2 (by decide) (by decide) (by decide) (by decide)
 obtain⟨⟨a2,b2⟩,e2⟩:=D 909 4 (by decide) (by decide) (by decide) (by decide)
 obtain⟨⟨a3,b3⟩,e3⟩:=D 910 16 (by decide) (by decide) (by decide) (by decide)
 obtain⟨r1,r2⟩:=aez a1 b1;have r3:=aeA a2 b2;have c1:(0<=dv cs 908 2)=True:=eq_true a1
 have c2:(dv cs 908 2<1000000)=True:=eq_true (by omega)
 have c3:((Str.ofString "zq").length * (dv cs 908 2).toNat<=1000000)=True:=eq_true r2
 have c4:((Str.ofString "vzb").length<=sizeLine)=True:=aZ (by decide +kernel)
 generalize hA:sZ (Str.ofString "zq") (dv cs 908 2).toNat=A at *
 generalize hB:Txt.slice (Str.ofString "vzb") none (some (dv cs 909 4))=B at *
 generalize dv cs 910 16=f at *
 have hL:(P4.length<=sizeLine)=True:=aZ (by decide +kernel)
 have hat:=UT;unfold G0;rw[show Str.ofString "bcdfghjkmnpqvwxz"=P4 from rfl];generalize P4=L at *
 generalize cs.map Tr.int=X at *
 have r16:(-4611686018427387904<=(16:Int)/\(16:Int)<4611686018427387904)=True:=eq_true (by decide)
 simp?[e1,e2,e3,c1,c2,c3,c4,hA,hB,lR];generalize hZ:c8 _ _ _ _ _ _ _ _=Z
 obtain⟨dY,anI,S2,⟨_,⟨nm,rfl,ln⟩,rfl⟩,rfl⟩:=xx hZ (λi τ cA S'=>(∃v,τ=[some (.str B),some (.str A),some (.str L),some (.int f),v])/\(∃p:List Str,cA=p.map .str/\p.length=i/\∀x∈p,x.length<=100)/\S=S') (λ_ _ _ _ _=>trivial) ⟨⟨_,rfl⟩,⟨[],rfl,rfl,by simp⟩,rfl⟩ (by rw[pq];decide) (by
  rintro i t τ cA S' ht ⟨⟨v,rfl⟩,⟨p,rfl,lp,hp⟩,rfl⟩
  obtain⟨jg,rfl⟩:=pe ht;obtain⟨c,ec⟩:=hat (f+(i:Int))
  have c5:(A.length+1<=sizeLine)=True:=aZ (by omega)
  have c6:(A.length+1+B.length<=sizeLine)=True:=aZ (by omega)
  refine⟨[some (.str B),some (.str A),some (.str L),some (.int f),some (.int (0+(i:Int)))],.str (A++⟨#[c]⟩++B),S,rfl,?_,⟨_,rfl⟩,⟨p++[A++⟨#[c]⟩++B],by simp,by simp[lp],λx hx=>?_⟩,rfl⟩
  ·simp?[ec,hL,c5,c6,Aj,Ak]
  ·rcases zbL.mp hx with q|q
   ·exact hp x q
   ·rw[zau.mp q,Ak,Ak,Aj];omega)
 rw[pq] at ln;obtain⟨ln,hnm⟩:=ln;obtain⟨t0,_,f0⟩:=gW (l:=nm) (i:=12) (by decide) (by rw[ln];decide)
 obtain⟨t1,_,f1⟩:=gW (l:=nm) (i:=13) (by decide) (by rw[ln];decide)
 have k1:qi (nm.map Tr.str) none (some (sd:Int))=(nm.take sd).map Tr.str:=by rw[qG,List.map_take]
 have k2:qi (nm.map Tr.str) (some 6) (some (6+(sd:Int)))=((nm.take (6+sd)).drop 6).map Tr.str:=by
  have:=Uj (nm.map Tr.str) 6 (6+sd) (by omega)
  rw[show ((6:Nat):Int)=6 from rfl,show ((6+sd:Nat):Int)=6+(sd:Int) by omega] at this
  rw[this,List.map_drop,List.map_take]
 have l0:(nm.take sd).length=sd:=by rw[zbj,ln];omega
 have ht:∀x∈nm.take sd,x.length<=100:=λx hx=>hnm x (List.mem_of_mem_take hx)
 by_cases q:4<sd
 ·have q':(4<(sd:Int))=True:=eq_true (by omega)
  have hx1:(Str.ofString "x").length=1:=by decide +kernel
  simp?[D8,q',k1,k2,lR];generalize hZ:c8 _ _ _ _ _ _ _ _=Z
  obtain⟨dY,anI,S2,⟨_,⟨p1,rfl,lp1⟩,rfl⟩,rfl⟩:=xx hZ (λi τ cA S'=>(∃v,τ=[v])/\(∃p:List Str,cA=p.map .str/\p.length=i)/\S=S') (λ_ _ _ _ _=>trivial) ⟨⟨_,rfl⟩,⟨[],rfl,rfl⟩,rfl⟩ (by simp[l0];omega) (by
   rintro i t τ cA S' ht' ⟨⟨v,rfl⟩,⟨p,rfl,lp⟩,rfl⟩
   rw[zaq] at ht';cases hc:(nm.take sd)[i]? with
   |none=>rw[hc] at ht';cases ht'
   |some x =>
    rw[hc] at ht';cases ht'
    have:=ht x (zaV hc)
    have c5:(x.length+1<=sizeLine)=True:=aZ (by omega)
    refine⟨[some (.str x)],.str (x++Str.ofString "x"),S,rfl,?_,⟨_,rfl⟩,⟨p++[x++Str.ofString "x"],by simp,by simp[lp]⟩,rfl⟩
    simp?[c5,hx1])
  rw[zae,l0] at lp1;refine⟨t0,t1,nm.take sd,p1,?_,l0,lp1⟩
  unfold aB;simp?[k1,f0,f1,lR]
 ·have q':¬ (4<(sd:Int)):=by omega
  refine⟨t0,t1,nm.take sd,(nm.take (6+sd)).drop 6,?_,l0,?_⟩
  ·unfold aB
   simp?[D8,q',k1,k2,f0,f1,lR]
  ·rw[zdC,zbj,ln]
   omega
theorem UU:(Tr.ls []).lQ=true:=by
 unfold Tr.lQ Tr.jA;rfl
theorem P6:(Tr.ls []).dp<=50/\(Tr.ls []).dp≠0:=by
 unfold Tr.dp Tr.pR;decide
theorem P7 (h:vw 6 S t = .ls [])(hs:IX t (.ls [])=none):cR neg t (.ls []) S = .ok (.bl (!neg)) S:=by
 have e:vw 6 S (.ls []) = .ls []:=rfl
 have hc:vw 6 S t=vw 6 S (.ls [])/\(vw 6 S t).lQ=true/\(vw 6 S t).dp<=50/\(vw 6 S t).dp≠0:=by
  rw[h,e];exact⟨rfl,UU,P6.1,P6.2⟩
 unfold cR;rw[hs];exact if_pos hc
theorem HQ:nQ true (.ls l) (.ls []) S = .ok (.bl (!l.isEmpty)) S:=by
 unfold nQ;show (if l.length=0 then _ else _)=_
 cases l with
 |nil =>
  rw[if_pos (show ([]:List Tr).length=0 from rfl),P7 rfl rfl]
  rfl
 |cons x r =>
  rw[if_neg (by simp)]
  rfl
theorem aeB (h:l≠[]):nQ true (.ls (l.map .str)) (.ls []) S = .ok (.bl true) S:=by
 cases l with
 |nil=>exact absurd rfl h
 |cons x r=>exact HQ
theorem HS (cs:List Int)(hl:cs.length<=100)(k0:0<=k)(k1:k<9000)(f o:Str)(s1:iz st 1=some (.str f))(s2:iz st 2=some (.str o))(S:Cs):∃b:B,CG [.ls (cs.map .int),.int k,.tp st] S = .ok b.t S:=by
 have D:=λ(j cW:Int) (k0:0<=j) (k1:j<10000) (h0:0<cW) (h1:cW<1000000)=>And.intro (yO cs j h0) (qI cs hl k0 k1 h0 h1 S)
 obtain⟨⟨a1,b1⟩,e1⟩:=D k 8 (by omega) (by omega) (by decide) (by decide)
 obtain⟨⟨a2,b2⟩,e2⟩:=D (k+1) 8 (by omega) (by omega) (by decide) (by decide)
 obtain⟨⟨a3,b3⟩,e3⟩:=D (k+2) 9 (by omega) (by omega) (by decide) (by decide)
 obtain⟨⟨a4,b4⟩,e4⟩:=D (k+3) 2 (by omega) (by omega) (by decide) (by decide)
 obtain⟨⟨a5,b5⟩,e5⟩:=D (k+4) 2 (by omega) (by omega) (by decide) (by decide)
 obtain⟨⟨a6,b6⟩,e6⟩:=D (k+3) 5 (by omega) (by omega) (by decide) (by decide)
 obtain⟨⟨a7,b7⟩,e7⟩:=D (k+3) 4 (by omega) (by omega) (by decide) (by decide)
 obtain⟨kd,_,f1⟩:=gW (l:=YD) a1 b1
 obtain⟨r,_,f2⟩:=vS (l:=[0,0,1,1,2,3,4,6]) a2 b2
 obtain⟨w,_,f4⟩:=gW (l:=[f,o]) a4 b4
 obtain⟨en,_,f5⟩:=gW (l:=["strike","other"]) a5 b5
 obtain⟨wy,_,f6⟩:=gW (l:=["bowled","caught","before","stumped","hit"]) a6 b6
 simp only[YD,rO,zV] at f1 f2 f4 f5 f6;generalize cs.map Tr.int=X at *
 generalize dv cs k 8=v1 at *
 generalize dv cs (k+1) 8=v2 at *
 generalize dv cs (k+2) 9=v3 at *
 generalize dv cs (k+3) 2=v4 at *
 generalize dv cs (k+4) 2=v5 at *
 generalize dv cs (k+3) 5=v6 at *
 generalize dv cs (k+3) 4=v7 at *
 unfold CG;simp?[e1,e2,e3,f1,f2];by_cases q0:v3=0
 ·refine⟨⟨kd,r,false,"run",w,en⟩,?_⟩
  unfold B.t;simp?[q0,e4,e5,f4,f5,s1,s2]
 ·by_cases q1:v3<3
  ·refine⟨⟨"bat",0,false,wy,"",""⟩,?_⟩
   unfold B.t;simp?[q0,q1,e6,f6,Dk]
  ·refine⟨⟨kd,r,decide (v7=0),"","",""⟩,?_⟩
   unfold B.t;simp?[q0,q1,e7,Dk]
noncomputable def lt8:Str:= "abcdefgh"
theorem aeC (h0:0<=i)(h1:i<8):∃c,iz lt8.cps.toList i=some c:=by
 obtain⟨c,_,e⟩:=vQ (l:=lt8.cps.toList) (i:=i) h0 (by rw[show (lt8.cps.toList.length:Int)=8 by decide +kernel];exact h1)
 exact⟨c,e⟩
theorem ajN (h:t=a\/t=b):∃j:Nat,((j:Int)=0\/(j:Int)=1)/\zB (.str t) [.str a,.str b]=some j:=by
 by_cases h1:a=t
 ·refine⟨0,.inl rfl,?_⟩
  unfold zB;rw[if_pos (by simp[Qn,h1])]
 ·refine⟨1,.inr rfl,?_⟩
  have h2:b=t:=(h.resolve_left λq=>h1 q.symm).symm
  unfold zB;rw[if_neg (by simp[Qn,h1])]
  unfold zB;rw[if_pos (by simp[Qn,h2])]
  rfl
theorem HU (a b c d e f g h:Tr):qi [a,b,c,d,e,f,g,h] (some 1) (some 3)=[b,c]:=rfl
theorem sx8:HT.gx 8 0 (some 1)=1:=rfl
section
variable {S:Cs}{m:M}{y:Ly}{n dd:Nat}
theorem P8 (cs:List Int)(hl:cs.length<=100)(h:c9 S m y)(D:Dr m dd n)(k0:0<=k)(k1:k<8000)(tt:Tr):∃e:bg,CH [.ls (cs.map .int),.int k,tt,.hd y.a] S = .ok e.t S:=by
 have W:=λ(j cW:Int) (k0:0<=j) (k1:j<10000) (h0:0<cW) (h1:cW<1000000)=>And.intro (yO cs j h0) (qI cs hl k0 k1 h0 h1 S)
 have pQ:=HK h D.z D.hn;have hpl:=yL h D.z;have ht:=PZ h D.z D.hn;have Eh:=yM h D.z D.hn;have ha:=h.a;have d2:=D.d2;have k9:=D.k9;unfold mF at ha;obtain⟨PL,hPL⟩:∃PL,PL=[Tr.tp [.str m.t0,.ls (m.p0.map .str)],Tr.tp [.str m.t1,.ls (m.p1.map .str)]]:=⟨_,rfl⟩
 have i1:iz PL 1=some (.tp [.str m.t1,.ls (m.p1.map .str)]):=by rw[hPL];rfl
 have i0:iz PL 0=some (.tp [.str m.t0,.ls (m.p0.map .str)]):=by rw[hPL];rfl
 have s3:=λ(v:Int) (hv:v=0\/v=1)=>@mO m v hv
 have p3:=λ(v:Int)=>UO D v
 unfold aB at hpl;rw[<-hPL] at hpl;simp only[<-hPL] at s3;cases hg:h_ m with
 |none =>
  have hs:jE m = .br:=by unfold jE;rw[hg]
  rw[hs] at pQ;obtain⟨⟨a1,b1⟩,e1⟩:=W k 2 (by omega) (by omega) (by decide) (by decide)
  obtain⟨⟨a2,b2⟩,e2⟩:=W (k+1) 2 (by omega) (by omega) (by decide) (by decide)
  have zi:((m.pl.map (fL m)).length<=sizeLine)=True:=aZ (by rw[zae];have:=D.z.pl;have:=D.hn;omega)
  generalize hIL:m.pl.map (fL m)=IL at *
  unfold CH;simp?[fx,ha,pQ,hpl,Eh,zi];generalize hI:cP (mB (ai (cR true) (aF "Match" "turn" 1 vL (aa 3) ak) (mC (.str "")))) _ _=IF
  by_cases q1:(IL.length:Int)=2/\dv cs k 2=0
  ·refine⟨.gU,?_⟩
   generalize cs.map Tr.int=X at *
   simp?[fx,q1.1,q1.2,e1,bg.t]
  ·have key:∃j:Int,(j=0\/j=1)/\IF [some (.ls (cs.map .int)),some (.int k),some tt,some (.hd y.a),some .br,some (.ls PL),some (.int (dv cs (k+1) 2)),none,none,none,none,none,none,none,none,none] S = .nx [some (.ls (cs.map .int)),some (.int k),some tt,some (.hd y.a),some .br,some (.ls PL),some (.int j),none,none,none,none,none,none,none,none,none] S:=by
    subst hI;by_cases q:vR m=""
    ·exact⟨dv cs (k+1) 2,by omega,by simp?[fx,ha,ht,q]⟩
    ·obtain⟨j,hj,ej⟩:=ajN (t:=vR m) (a:=m.t0) (b:=m.t1) (by
      unfold vR at q ⊢
      split
      ·rename_i r;rw[r] at q;exact absurd rfl q
      ·exact YF)
     refine⟨(j:Int),hj,?_⟩
     generalize vR m=tm at *
     simp?[fx,ha,ht,q,i0,i1,qj,ej,cH,zay,zaN,zaU]
   obtain⟨j,j01,hIF⟩:=key;have s1:=s3 j j01;have s2:=s3 (1 - j) (by omega)
   have p1:=p3 j;have p2:=p3 (1 - j)
   generalize jc m j=tj at *
   generalize jc m (1 - j)=tk at *
   generalize iy m j=A at *
   generalize iy m (1 - j)=B at *
   obtain⟨⟨a3,b3⟩,e3⟩:=W (k+2) (A.length:Int) (by omega) (by omega) (by omega) (by omega)
   obtain⟨⟨a4,b4⟩,e4⟩:=W (k+3) (B.length:Int) (by omega) (by omega) (by omega) (by omega)
   obtain⟨x1,_,f1⟩:=gW (l:=A) a3 b3
   obtain⟨x2,_,f2⟩:=HM (l:=A) (n:=dv cs (k+2) (A.length:Int)+1) (m:=(A.length:Int)) rfl (by omega)
   obtain⟨x3,_,f3⟩:=gW (l:=B) a4 b4
   have z1:(A.length<=sizeLine)=True:=aZ (by omega)
   have z2:(B.length<=sizeLine)=True:=aZ (by omega)
   have z3:(0<(A.length:Int))=True:=eq_true (by omega)
   have z4:((A.length:Int)<1073741824)=True:=eq_true (by omega)
   refine⟨.dg tj x1 x2 x3,?_⟩
   generalize cs.map Tr.int=X at *
   by_cases q2:(IL.length:Int)=2
   ·have q3:¬ dv cs k 2=0:=λz=>q1 ⟨q2,z⟩
    simp?[fx,q2,q3,e1,e2,hIF,s1,s2,e3,e4,f1,f2,f3,z1,z2,z3,z4,zae,bg.t]
   ·simp?[fx,q2,e2,hIF,s1,s2,e3,e4,f1,f2,f3,z1,z2,z3,z4,zae,bg.t]
 |some x =>
  have hs:∃r0 r1 r2 r3,jE m = .tp [.str (jc m x.b9),.str x.nA,.str x.vN,.str x.vX,r0,r1,r2,r3]:=by
   unfold jE;rw[hg];exact⟨_,_,_,_,rfl⟩
  obtain⟨r0,r1,r2,r3,hs⟩:=hs;rw[hs] at pQ;clear hs
  obtain⟨j,j01,ej⟩:=ajN (t:=jc m x.b9) (a:=m.t0) (b:=m.t1) YF
  generalize jc m x.b9=ts at *
  obtain⟨⟨a1,b1⟩,e1⟩:=W (k+4) 40 (by omega) (by omega) (by decide) (by decide)
  obtain⟨⟨a2,b2⟩,e2⟩:=W (k+5) 2 (by omega) (by omega) (by decide) (by decide)
  obtain⟨⟨a6,b6⟩,e6⟩:=W (k+6) 8 (by omega) (by omega) (by decide) (by decide)
  have s1:=s3 (j:Int) j01
  have s2:=s3 (1 - (j:Int)) (by omega)
  have p1:=p3 (j:Int)
  have p2:=p3 (1 - (j:Int))
  have dp0:=D.p0;have dp1:=D.p1;generalize jc m (j:Int)=tj at *
  generalize jc m (1 - (j:Int))=tk at *
  generalize iy m (j:Int)=A at *
  generalize iy m (1 - (j:Int))=B at *
  obtain⟨⟨a3,b3⟩,e3⟩:=W (k+5) (A.length:Int) (by omega) (by omega) (by omega) (by omega)
  obtain⟨⟨a4,b4⟩,e4⟩:=W (k+5) (B.length:Int) (by omega) (by omega) (by omega) (by omega)
  obtain⟨⟨a5,b5⟩,e5⟩:=W (k+5) ((m.p0++m.p1).length:Int) (by omega) (by omega) (by rw[zag];omega) (by rw[zag];omega)
  obtain⟨x1,_,f1⟩:=gW (l:=A) a3 b3
  obtain⟨x2,_,f2⟩:=gW (l:=B) a4 b4
  obtain⟨x3,_,f3⟩:=gW (l:=m.p0++m.p1) a5 b5
  obtain⟨c,f4⟩:=aeC a6 b6;obtain⟨b,f5⟩:=HS cs hl (k:=k+5) (by omega) (by omega) x.nA x.vN (st:=[.str ts,.str x.nA,.str x.vN,.str x.vX,r0,r1,r2,r3]) rfl rfl S
  have z1:(A.length<=sizeLine)=True:=aZ (by omega)
  have z2:(B.length<=sizeLine)=True:=aZ (by omega)
  have z3:(m.p0.length+m.p1.length<=sizeLine)=True:=aZ (by omega)
  have z4:(lt8.length<=sizeLine)=True:=aZ (by decide +kernel)
  have z5:((Str.ofString "sw").length+1<=sizeLine)=True:=aZ (by decide +kernel)
  rw[zaE] at f3;rw[zag] at e5 f3;unfold CH;rw[show Str.ofString "abcdefgh"=lt8 from rfl];generalize lt8=L at *
  generalize hX:cs.map Tr.int=X at *
  generalize dv cs (k+4) 40=v1 at *
  generalize dv cs (k+5) 2=v2 at *
  generalize dv cs (k+5) (A.length:Int)=v3 at *
  generalize dv cs (k+5) (B.length:Int)=v4 at *
  generalize dv cs (k+5) ((m.p0.length+m.p1.length:Nat):Int)=v5 at *
  generalize dv cs (k+6) 8=v6 at *
  simp?[fx,ha,pQ,hpl,i0,i1,qj,ej,cH,zay,zaN,zaU,e1];by_cases q0:v1=0
  ·refine⟨.fO,?_⟩
   simp?[fx,q0,bg.t]
  ·generalize hC:gq _ _ _ _ _ _=C
   have key:∃th:List Str,th.length<=2/\∀v f o w,x.nA=f->x.vN=o->C [some (.ls X),some (.int k),some tt,some (.hd y.a),some (.tp [.str ts,.str f,.str o,.str w,r0,r1,r2,r3]),some (.ls PL),some (.int (j:Int)),none,none,none,none,none,some (.int v),none,none,none] S = .ok (.ls (th.map .str)) S:=by
    subst hC;by_cases g1:x.nA="" <;> by_cases g2:x.vN=""
    ·exact⟨[],by simp,λv f o w hf ho=>by rw[<-hf,<-ho];simp?[fx,HU,sx8,zcT,g1,g2,iT,zV]⟩
    ·exact⟨[x.vN],by simp,λv f o w hf ho=>by rw[<-hf,<-ho];simp?[fx,HU,sx8,zcT,g1,g2,iT,zV,rO]⟩
    ·exact⟨[x.nA],by simp,λv f o w hf ho=>by rw[<-hf,<-ho];simp?[fx,HU,sx8,zcT,g1,g2,iT,zV,rO]⟩
    ·exact⟨[x.nA,x.vN],by simp,λv f o w hf ho=>by rw[<-hf,<-ho];simp?[fx,HU,sx8,zcT,g1,g2,iT,zV,rO]⟩
   obtain⟨th,lth,Qs⟩:=key;have zt:(th.length<=sizeLine)=True:=aZ (by omega)
   by_cases q1:v1=1/\th≠[]
   ·have tp:0<th.length:=List.length_pos_iff.mpr q1.2
    obtain⟨x4,_,f6⟩:=HM (l:=th) (n:=v2) (m:=(th.length:Int)) rfl (by omega)
    have c1:(0<(th.length:Int))=True:=eq_true (by omega)
    have c2:((th.length:Int)<1073741824)=True:=eq_true (by omega)
    have g1:=aeB (S:=S) q1.2
    refine⟨.pL x4,?_⟩
    simp?[fx,q0,q1.1,Qs,↓g1,e2,f6,zt,c1,c2,zae,bg.t]
   ·have q1':v1=1->nQ true (.ls (th.map .str)) (.ls []) S = .ok (.bl false) S:=λz=>by
     have:th=[]:=Classical.byContradiction λw=>q1 ⟨z,w⟩
     rw[HQ,this];rfl
    by_cases q2:v1=2
    ·refine⟨.swap x3 (Str.ofString "sw"++⟨#[c]⟩),?_⟩
     simp?[fx,q0,q2,Qs,i0,i1,e5,e6,f3,f4,z3,z4,z5,Aj,zag,zae,bg.t]
    ·by_cases q3:x.nA="" \/ x.vN=""
     ·refine⟨.q8 x1,?_⟩
      by_cases q5:v1=1
      ·have g1:=q1' q5
       by_cases q4:x.nA=""
       ·simp?[fx,q5,Qs,↓g1,q4,s1,e3,f1,z1,zae,bg.t]
       ·have q6:=q3.resolve_left q4
        simp?[fx,q5,Qs,↓g1,q4,q6,s1,e3,f1,z1,zae,bg.t]
      ·by_cases q4:x.nA=""
       ·simp?[fx,q0,q2,q5,Qs,q4,s1,e3,f1,z1,zae,bg.t]
       ·have q6:=q3.resolve_left q4
        simp?[fx,q0,q2,q5,Qs,q4,q6,s1,e3,f1,z1,zae,bg.t]
     ·have q4:¬ x.nA="" := λz=>q3 (.inl z)
      have q6:¬ x.vN="" := λz=>q3 (.inr z)
      by_cases q7:x.vX=""
      ·refine⟨.pK x2,?_⟩
       by_cases q5:v1=1
       ·have g1:=q1' q5
        simp?[fx,q5,Qs,↓g1,q4,q6,q7,s2,e4,f2,z2,zae,bg.t]
       ·simp?[fx,q0,q2,q5,Qs,q4,q6,q7,s2,e4,f2,z2,zae,bg.t]
      ·refine⟨.pJ b,?_⟩
       show _=R.ok b.t S
       generalize b.t=bt at *
       by_cases q5:v1=1
       ·have g1:=q1' q5
        simp?[fx,q5,Qs,↓g1,q4,q6,q7,f5]
       ·simp?[fx,q0,q2,q5,Qs,q4,q6,q7,f5]
end
theorem P9 (w:Str):aV (Str.ofString "rule") [(Str.ofString "rule",Tr.str w),(Str.ofString "number",Tr.int 0)]=some (.str w):=by kernel_rfl
section
variable {S:Cs}{m:M}{y:Ly}{n:Nat}
theorem Fd (h:c9 S m y)(z:Sz m n)(hn:n+1<=1000)(e:bg):∃S' y' m',yC [.hd y.a,e.t] S = .ok (.str ((gV m e).getD "")) S'/\PY S y S' m' y'/\Sz m' (n+1)/\m'=if gV m e=none then gM m e else m:=by
 unfold yC;have ha:=h.a;unfold mF at ha;cases hr:gV m e with
 |none =>
  obtain⟨S',y',k1,k2,k3⟩:=Av h z hn e hr;refine⟨S',y',_,?_,k2,k3,by rw[if_pos rfl]⟩
  simp?[fx,ha,k1,zbF]
 |some w =>
  obtain⟨S0,⟨G,e0⟩,k1⟩:=Aw h z hn e w hr
  have on:aR [] S (S0++[.rF "NotLet" [("rule",.str w),("number",.int 0)]]):=by
   rw[e0,zaC];exact aR.rW
  refine⟨_,y,m,?_,⟨h.only on (by simp),on.mono (by simp),rfl,λj hj=>.inl hj⟩,z.mono (zbb n),by rw[if_neg (by simp)]⟩
  simp?[fx,ha,k1,E7,zau,zbU,P9]
end
noncomputable def fW (m:M):List bg->Option M
 |[]=>some m
 |e::r=>if gV m e=none then fW (gM m e) r else none
theorem nq:∀{es:List bg} {m m':M} {e:bg},fW m es=some m'->fW m (es++[e])=if gV m' e=none then some (gM m' e) else none
 |[],m,m',e,h=>by cases h;rfl
 |a::r,m,m',e,h=>by
  rw[GB];unfold fW at h ⊢
  split at h
  ·rename_i q
   rw[if_pos q];exact nq h
  ·cases h
theorem Fe (h:gV m e=some w):¬ w="" := λz=>absurd (C3 h).1 (by rw[z];decide +kernel)
theorem UW (e:bg)(k:Nat):Tr.aE k e.t=true:=by
 cases e<;>(unfold bg.t;try unfold B.t)<;>simp only[nO,kQ,o_,MC,zay,zaN,zaU]
theorem JL (h:aR [] S S'):S'.take S.length=S:=by
 apply List.ext_getElem?
 intro i;rw[List.getElem?_take];split
 ·exact h.2 i (by assumption) (by simp)
 ·rw[List.getElem?_eq_none (by omega)]
structure Fm (S S':Cs) (m:M) (y:Ly) (d n:Nat):Prop where
 yK:c9 S' m y
 a:y.a=S.length
 fp:∀j∈fp y,S.length<=j
 on:aR [] S S'
 D:Dr m d n
section
variable {S S' S2:Cs}{m m2:M}{y y2:Ly}{d n n2:Nat}
theorem Fm.UX (h:Fm S S' m y d n)(T:PY S' y S2 m2 y2)(D:Dr m2 d n2):Fm S S2 m2 y2 d n2:=
 ⟨T.yK,T.a.trans h.a,λj hj=>(T.fp j hj).elim (h.fp j) λq=>zai h.on.1 q,h.on.fresh T.on λj hj=>.inr (h.fp j hj),D⟩
theorem Fm.init (u:U)(t0 t1:Str)(l0:p0.length=d)(l1:p1.length=d)(d2:2<=d)(k9:d<=11)(S:Cs):Fm S (j6 S (cI u t0 t1 p0 p1)) (cI u t0 t1 p0 p1) (nG S.length) d 22:=
 ⟨UI S u t0 t1 p0 p1,rfl,λj hj=>by simp[My.fp,nG] at hj;omega,aR.rW,⟨UJ u t0 t1 p0 p1 (by omega) (by omega),by decide,l0,l1,d2,k9,[],rfl⟩⟩
theorem Fm.YJ (h:Fm S S' m y d n)(hn:n+1<=1000)(e:bg)(hr:gV m e=none):∃S2 y2,lD [.hd S.length,e.t] S' = .ok .br S2/\Fm S S2 (gM m e) y2 d (n+1)/\PY S' y S2 (gM m e) y2:=by
 obtain⟨S2,y2,k1,k2,k3⟩:=Av h.yK h.D.z hn e hr;rw[h.a] at k1;exact⟨S2,y2,k1,h.UX k2 (h.D.UQ e k3 hn),k2⟩
end
theorem P_ (h:lH m=true):∃l,wz m = .tp l:=by
 unfold wz;rw[h,if_neg (by simp)]
 repeat' split
 all_goals exact⟨_,rfl⟩
theorem Ff (cs:List Int)(hl:cs.length<=100)(u:U)(t0 t1:Str)(l0:p0.length=d)(l1:p1.length=d)(d2:2<=d)(k9:d<=11)(cW:Nat)(hm:cW<=100)(S:Cs):
  ∃es m,HB [.ls (cs.map .int),u.t,aB t0 t1 p0 p1,.int cW] S = .ok (.ls (es.map bg.t)) S/\fW (cI u t0 t1 p0 p1) es=some m/\es.length<=cW:=by
 have F0:=Fm.init u t0 t1 l0 l1 d2 k9 S;have e4:=vP u t0 t1 p0 p1 (by omega) (by omega) S
 have hr:(-4611686018427387904<=(cW:Int)/\(cW:Int)<4611686018427387904)=True:=eq_true (by omega)
 have lS:(j6 S (cI u t0 t1 p0 p1)).length=S.length+4:=by unfold j6;simp
 have ent:=λ(m:M) (y:Ly) (S':Cs) (n:Nat) (h:c9 S' m y) (D:Dr m d n) (k:Int) (k0:0<=k) (k1:k<8000)=>P8 cs hl h D k0 k1 (aB t0 t1 p0 p1)
 generalize hm0:cI u t0 t1 p0 p1=m0 at *
 generalize aB t0 t1 p0 p1=sT at *
 generalize cs.map Tr.int=X at *
 generalize u.t=uT at *
 unfold HB;generalize hB:cT O4 _=q
 have IA:∃(es:List bg) (m:M) (S':Cs),q [.ls X,uT,sT,.int cW] S = .ok (.hd (S.length+4)) S'/\S'[S.length+4]? = some (.bM (es.map bg.t))/\aR [] S S'/\fW m0 es=some m/\es.length<=cW:=by
  subst hB;simp?[fx,e4,hr,zbo,lS];generalize hZ:fV _ _ _ _ _ _=Z
  obtain⟨τ,S',⟨⟨v,w,rfl⟩,es,m,y,kS,F,nk,hR,Kh⟩,rfl⟩:=gQ hZ (λi τ S'=>(∃v w,τ=[some (.ls X),some uT,some sT,some (.int (cW:Int)),some (.hd S.length),some (.hd (S.length+4)),v,w])/\∃es m y,S'[S.length+4]? = some (.bM (es.map bg.t))/\Fm S S' m y d (22+i)/\S.length+4∉fp y/\fW m0 es=some m/\es.length<=i) (λ_ _ _ _=>trivial) ⟨⟨_,_,rfl⟩,[],m0,_,by rw[<-lS];exact o9 _ _,⟨F0.yK.only (F:=[]) aR.rW (by simp),F0.a,F0.fp,F0.on.trans aR.rW,F0.D⟩,by simp[fp,nG],rfl,zah _⟩ (by
   rintro i t τ S' ht ⟨⟨v,w,rfl⟩,es,m,y,kS,F,nk,hR,Kh⟩
   obtain⟨jg,rfl⟩:=pe ht;have k1:=YH F.yK F.D.z F.D.hn;have ha:=F.yK.a;rw[F.a] at k1 ha;unfold mF at ha;cases hd:lH m with
   |true =>
    obtain⟨l,el⟩:=P_ hd;rw[el] at k1;refine⟨[some (.ls X),some uT,some sT,some (.int (cW:Int)),some (.hd S.length),some (.hd (S.length+4)),some (.int (0+(i:Int))),w],S',.inl ?_,⟨_,_,rfl⟩,es,m,y,kS,⟨F.yK,F.a,F.fp,F.on,F.D.mono (by omega) (by omega)⟩,nk,hR,by omega⟩
    simp?[fx,ha,k1]
   |false =>
    have er:wz m = .br:=by unfold wz;rw[hd,if_pos rfl]
    rw[er] at k1;obtain⟨e,k2⟩:=ent m y S' _ F.yK F.D (11 * (i:Int)) (by omega) (by omega)
    obtain⟨S2,y2,m2,k3,T,z2,em⟩:=Fd F.yK F.D.z (by omega) e
    rw[F.a] at k2 k3;have kS2:=T.on.at kS nk;have nk2:S.length+4∉fp y2:=λq=>(T.fp _ q).elim nk λq=>by have:=aK kS;omega
    have hz:(es.length<sizeLine)=True:=iZ (by omega)
    cases hr:gV m e with
    |none =>
     rw[hr] at k3 em;rw[if_pos rfl] at em;subst em;have F2:=F.UX T (F.D.UQ e z2 (by omega))
     refine⟨[some (.ls X),some uT,some sT,some (.int (cW:Int)),some (.hd S.length),some (.hd (S.length+4)),some (.int (0+(i:Int))),some e.t],S2.set (S.length+4) (.bM ((es++[e]).map bg.t)),.inl ?_,⟨_,_,rfl⟩,es++[e],_,y2,bZ (aK kS2),⟨F2.yK.only (F:=[S.length+4]) (aR.set (by simp)) (λj hj q=>by rw[zau] at q;subst q;exact nk2 hj),F2.a,F2.fp,F2.on.fresh (F':=[S.length+4]) (aR.set (by simp)) (λj hj=>.inr (by rw[zau] at hj;omega)),F2.D⟩,nk2,by rw[nq hR,if_pos hr],by simp;omega⟩
     rw[zaE,rO,zV];generalize e.t=et at *
     simp?[fx,ha,k1,k2,k3,kS2,hz,zbF]
    |some x =>
     rw[hr] at k3 em;rw[if_neg (by simp)] at em
     subst em;have hx:=Fe hr;refine⟨[some (.ls X),some uT,some sT,some (.int (cW:Int)),some (.hd S.length),some (.hd (S.length+4)),some (.int (0+(i:Int))),some e.t],S2,.inl ?_,⟨_,_,rfl⟩,es,_,y2,kS2,F.UX T (F.D.mono (by omega) (by omega)),nk2,hR,by omega⟩
     generalize e.t=et at *
     simp?[fx,ha,k1,k2,k3,hx,zbU])
  rw[pq] at Kh F;refine⟨es,m,S',?_,kS,F.on,hR,Kh⟩
  simp only[↓bp,bx,simprocAttr]
 obtain⟨es,m,S',e1,e2,e3,e5,e6⟩:=IA;refine⟨es,m,fF (S1:=S') (t:=.hd (S.length+4)) e1 (JL e3) ?_,e5,e6⟩
 unfold nN;have hq:cL S' (S.length+4)=some (es.map bg.t):=by unfold cL;rw[e2]
 have:(es.map bg.t).all (Tr.aE S.length)=true:=by
  rw[zaK];intro t ht;obtain⟨e,_,rfl⟩:=zbl.mp ht;exact UW e _
 simp only[hq,show ¬ S.length+4<S.length by omega,if_false,fZ,this,if_true]
theorem HV (e:fV gP b f l τ S=Z)(I:Nat->En->Cs->Prop)(J:RS->Prop)(hc:∀i τ S,I i τ S->gP S)(h0:I 0 τ S)
  (hs:∀i t τ S,l[i]? = some t->I i τ S->(∃j8 S2,(b t τ S).bP f = .nx j8 S2/\I (i+1) j8 S2)\/((∃n S2,(b t τ S).bP f = .ex n S2/\J (.ex n S2))\/∃u S2,(b t τ S).bP f = .rt u S2/\J (.rt u S2))):(∃o8 S',I l.length o8 S'/\Z = .nx o8 S')\/J Z:=by
 have key:∀(l:List Tr) (n:Nat) (τ:En) (S:Cs),(∀i t τ S,l[i]? = some t->I (n+i) τ S->(∃j8 S2,(b t τ S).bP f = .nx j8 S2/\I (n+i+1) j8 S2)\/((∃n S2,(b t τ S).bP f = .ex n S2/\J (.ex n S2))\/∃u S2,(b t τ S).bP f = .rt u S2/\J (.rt u S2)))->I n τ S->(∃o8 S',I (n+l.length) o8 S'/\fV gP b f l τ S = .nx o8 S')\/J (fV gP b f l τ S):=by
  intro l;induction l with
  |nil=>intro n τ S h h0;exact .inl ⟨τ,S,h0,by unfold fV;rw[if_pos (hc n τ S h0)]⟩
  |cons t r ih =>
   intro n τ S h h0;have e1:fV gP b f (t::r) τ S=(b t τ S).bP λdY S1=>Vz (f dY S1) (fV gP b f r):=by
    conv=>lhs;unfold fV
    rw[if_pos (hc n τ S h0)]
   rw[e1];have e2:∀X,(b t τ S).bP f=X->(X = .aG\/∃dY S1,b t τ S = .ok dY S1/\f dY S1=X)\/∃n S1,b t τ S = .ex n S1/\X = .ex n S1:=λX hX=>by
    cases hb:b t τ S with
    |ok dY S1=>rw[hb] at hX;exact .inl (.inr ⟨dY,S1,rfl,hX⟩)
    |ex n S1=>rw[hb] at hX;exact .inr ⟨n,S1,rfl,hX.symm⟩
    |aG=>rw[hb] at hX;exact .inl (.inl hX.symm)
   rcases h 0 t τ S rfl h0 with⟨j8,S2,e,h2⟩|⟨m,S2,e,hJ⟩|⟨u,S2,e,hJ⟩
   ·rcases e2 _ e with (z|⟨dY,S1,eb,ef⟩)|⟨m,S1,_,z⟩
    ·cases z
    ·rw[eb,R.fm,ef,MA]
     rcases ih (n+1) j8 S2 (λi u τ S hu hI=>by
      have:=h (i+1) u τ S (by simpa using hu) (by rw[show n+(i+1)=n+1+i by omega];exact hI)
      rw[show n+(i+1)+1=n+1+i+1 by omega] at this
      exact this) h2 with⟨τ3,S3,h3,e3⟩|hJ
     ·exact .inl ⟨τ3,S3,by rw[zU,show n+(r.length+1)=n+1+r.length by omega];exact h3,e3⟩
     ·exact .inr hJ
    ·cases z
   ·rcases e2 _ e with (z|⟨dY,S1,eb,ef⟩)|⟨m',S1,eb,z⟩
    ·cases z
    ·rw[eb,R.fm,ef,ahT];exact .inr hJ
    ·rw[eb,R.zq,<-z];exact .inr hJ
   ·rcases e2 _ e with (z|⟨dY,S1,eb,ef⟩)|⟨m',S1,eb,z⟩
    ·cases z
    ·rw[eb,R.fm,ef,VA];exact .inr hJ
    ·cases z
 rcases key l 0 τ S (λi t τ S ht hI=>by rw[zbT] at hI ⊢;exact hs i t τ S ht hI) h0 with⟨o8,S',h,e2⟩|hJ
 ·rw[zbT] at h
  exact .inl ⟨o8,S',h,by rw[<-e,e2]⟩
 ·rw[e] at hJ
  exact .inr hJ
theorem aeD {x0 x1 x2 x3:Tr}:aV ("rules" : Str) ([("rules",x0),("teams",x1),("kept",x2),("current",x3)]:List (Str×Tr))=some x0:=by kernel_rfl
theorem aeE {x0 v:Tr}:bY ("teams" : Str) v ([("rules",x0)]:List (Str×Tr))=([("rules",x0),("teams",v)]:List (Str×Tr)):=by kernel_rfl
theorem aeF {x0 x1 x2 x3:Tr}:aV ("teams" : Str) ([("rules",x0),("teams",x1),("kept",x2),("current",x3)]:List (Str×Tr))=some x1:=by kernel_rfl
theorem aeG {x0 x1 v:Tr}:bY ("kept" : Str) v ([("rules",x0),("teams",x1)]:List (Str×Tr))=([("rules",x0),("teams",x1),("kept",v)]:List (Str×Tr)):=by kernel_rfl
theorem aeH {x0 x1 x2 x3:Tr}:aV ("kept" : Str) ([("rules",x0),("teams",x1),("kept",x2),("current",x3)]:List (Str×Tr))=some x2:=by kernel_rfl
theorem aeI {x0 x1 x2 x3 v:Tr}:bY ("kept" : Str) v ([("rules",x0),("teams",x1),("kept",x2),("current",x3)]:List (Str×Tr))=([("rules",x0),("teams",x1),("kept",v),("current",x3)]:List (Str×Tr)):=by kernel_rfl
theorem aeJ {x0 x1 x2 v:Tr}:bY ("current" : Str) v ([("rules",x0),("teams",x1),("kept",x2)]:List (Str×Tr))=([("rules",x0),("teams",x1),("kept",x2),("current",v)]:List (Str×Tr)):=by kernel_rfl
theorem aeK {x0 x1 x2 x3:Tr}:aV ("current" : Str) ([("rules",x0),("teams",x1),("kept",x2),("current",x3)]:List (Str×Tr))=some x3:=by kernel_rfl
theorem aeL {x0 x1 x2 x3 v:Tr}:bY ("current" : Str) v ([("rules",x0),("teams",x1),("kept",x2),("current",x3)]:List (Str×Tr))=([("rules",x0),("teams",x1),("kept",x2),("current",v)]:List (Str×Tr)):=by kernel_rfl
theorem ajO {x0 x1 x2 x3:Tr}:aV ("tell" : Str) ([("rules",x0),("teams",x1),("kept",x2),("current",x3)]:List (Str×Tr))=none:=by kernel_rfl
theorem ajP {x0 x1 x2 x3:Tr}:aV ("entries" : Str) ([("rules",x0),("teams",x1),("kept",x2),("current",x3)]:List (Str×Tr))=none:=by kernel_rfl
theorem ajQ {x0 x1 x2 x3:Tr}:aV ("match" : Str) ([("rules",x0),("teams",x1),("kept",x2),("current",x3)]:List (Str×Tr))=none:=by kernel_rfl
theorem ajR {x0 x1 x2 x3:Tr}:aV ("need_number" : Str) ([("rules",x0),("teams",x1),("kept",x2),("current",x3)]:List (Str×Tr))=none:=by kernel_rfl
theorem ajS {x0 x1 x2 x3:Tr}:aV ("retell" : Str) ([("rules",x0),("teams",x1),("kept",x2),("current",x3)]:List (Str×Tr))=none:=by kernel_rfl
theorem ajT {x0 x1 x2 x3:Tr}:aV ("put_right" : Str) ([("rules",x0),("teams",x1),("kept",x2),("current",x3)]:List (Str×Tr))=none:=by kernel_rfl
theorem ajU {x0 x1 x2 x3:Tr}:aV ("put_in" : Str) ([("rules",x0),("teams",x1),("kept",x2),("current",x3)]:List (Str×Tr))=none:=by kernel_rfl
theorem ajV {x0 x1 x2 x3:Tr}:aV ("take_out" : Str) ([("rules",x0),("teams",x1),("kept",x2),("current",x3)]:List (Str×Tr))=none:=by kernel_rfl
theorem UY:(("Book" : Str)∈(["Book"]:List Str))=True:=eq_true (zau.mpr rfl)
open And in
noncomputable def om:=intro @aeD<|intro @aeE<|intro @aeF<|intro @aeG<|intro @aeH<|intro @aeI<|intro @aeJ<|intro @aeK<|intro @aeL<|intro @UY<|intro @ajO<|intro @ajP<|intro @ajQ<|intro @ajR<|intro @ajS<|intro @ajT<|intro @ajU<|@ajV
noncomputable def yP (u:U)(sT:Tr)(kc:Nat)(cu:Tr):List (Str×Tr):=[("rules",u.t),("teams",sT),("kept",.hd kc),("current",cu)]
structure ia (S:Cs) (b kc:Nat) (u:U) (sT:Tr) (es:List bg) (cu:Tr):Prop where
 hb:S[b]? = some (.dZ "Book" (yP u sT kc cu))
 hk:S[kc]? = some (.bM (es.map bg.t))
 ne:b≠kc
theorem ia.only (h:ia S b kc u sT es cu)(o:aR F S S')(hb:b∉F)(hk:kc∉F):ia S' b kc u sT es cu:=⟨o.at h.hb hb,o.at h.hk hk,h.ne⟩
theorem mQ (l:List Tr)(i:Nat):qi l (some (i:Int)) none=l.drop i:=by
 unfold qi;rw[HT.AV,HT.yY];by_cases h:i<=l.length
 ·rw[zcv h,zbs (by simp)]
 ·rw[zcL (by omega),zcg (zah _),zcg (by omega)]
  simp
theorem nu:∀{es:List bg} {m m':M} (i:Nat),fW m es=some m'->∃m2,fW m (es.take i)=some m2/\∀e,es[i]? = some e->gV m2 e=none
 |[],m,m',i,h=>⟨m,by simp[fW],λe he=>by simp at he⟩
 |a::r,m,m',0,h=>⟨m,rfl,λe he=>by
  cases he;unfold fW at h;split at h
  ·assumption
  ·cases h⟩
 |a::r,m,m',i+1,h=>by
  unfold fW at h;split at h
  ·rename_i q
   obtain⟨m2,k1,k2⟩:=nu i h;refine⟨m2,?_,λe he=>k2 e (by simpa using he)⟩
   rw[List.take_succ_cons];unfold fW;rw[if_pos q];exact k1
  ·cases h
theorem j7 {es:List bg}{m0 m:M}{e:bg}{i:Nat}(h:fW m0 (es.take i)=some m)(he:es[i]? = some e):fW m0 (es.take (i+1))=if gV m e=none then some (gM m e) else none:=by
 have:es.take (i+1)=es.take i++[e]:=by rw[zdZ,he];rfl
 rw[this,nq h]
theorem yQ:∀{es:List bg} {m:M} {i:Nat},fW m (es.take i)=none->fW m es=none
 |[],m,i,h=>by simpa using h
 |a::r,m,0,h=>by cases h
 |a::r,m,i+1,h=>by
  rw[List.take_succ_cons] at h;unfold fW at h ⊢
  split at h
  ·rename_i q
   rw[if_pos q];exact yQ h
  ·rename_i q
   rw[if_neg q]
noncomputable def JM (m0:M)(fs:List bg)(i:Nat)(w:Str):Prop:=∃m e,fW m0 (fs.take i)=some m/\fs[i]? = some e/\gV m e=some w
theorem JM.none {m0:M}{fs:List bg}{i:Nat}{w:Str}(h:JM m0 fs i w):fW m0 fs=none:=by
 obtain⟨m,e,h1,h2,h3⟩:=h;exact yQ (i:=i+1) (by rw[j7 h1 h2,h3];rfl)
section
variable {S:Cs}{b kc d:Nat}{u:U}{t0 t1:Str}{p0 p1:List Str}{es:List bg}{cu:Tr}
theorem UZ (u:U)(t0 t1:Str)(l0:p0.length=d)(l1:p1.length=d)(d2:2<=d)(k9:d<=11)(S:Cs):∃S' y,O5 [.hd S.length,u.t,aB t0 t1 p0 p1] (S++[.dZ "Book" []]) = .ok .br S'/\ia S' S.length (S.length+1) u (aB t0 t1 p0 p1) [] (.hd y.a)/\c9 S' (cI u t0 t1 p0 p1) y/\aR [] S S'/\(∀j∈fp y,S.length+2<=j):=by
 obtain⟨Sa,hSa⟩:∃Sa:Cs,Sa=S++[Ce.dZ "Book" [("rules",u.t),("teams",aB t0 t1 p0 p1),("kept",.hd (S.length+1))],Ce.bM []]:=⟨_,rfl⟩
 have la:Sa.length=S.length+2:=by rw[hSa];simp
 have e4:=vP u t0 t1 p0 p1 (by omega) (by omega) Sa
 have F:=Fm.init u t0 t1 l0 l1 d2 k9 Sa;have hb:(j6 Sa (cI u t0 t1 p0 p1))[S.length]? = some (Ce.dZ "Book" [("rules",u.t),("teams",aB t0 t1 p0 p1),("kept",.hd (S.length+1))]):=F.on.at (by rw[hSa];exact E7) (by simp)
 have hk:(j6 Sa (cI u t0 t1 p0 p1))[S.length+1]? = some (Ce.bM []):=F.on.at (by rw[hSa];exact ga1) (by simp)
 have hl0:(p0.length<=sizeLine)=True:=aZ (by omega)
 have RN:(p1.length<=sizeLine)=True:=aZ (by omega)
 rw[la] at e4;generalize hI:j6 Sa (cI u t0 t1 p0 p1)=SI at *
 refine⟨SI.set S.length (.dZ "Book" (yP u (aB t0 t1 p0 p1) (S.length+1) (.hd (nG (S.length+2)).a))),nG (S.length+2),?_,⟨bZ (aK hb),by rw[cU (by omega)];exact hk,by omega⟩,?_,?_,?_⟩
 ·unfold O5 yP
  unfold aB at *
  generalize u.t=ut at *
  rw[hSa,zaC,GB,GB,Dm] at e4;simp?[fx,om,E7,sa0,zaC,zae,hl0,RN,e4,hb,nG]
 ·have:=F.yK
  rw[la] at this;exact this.only (F:=[S.length]) (aR.set (by simp)) λj hj q=>by
   have:=F.fp j (by rw[la];exact hj)
   rw[zau] at q;omega
 ·have o1:aR [] S Sa:=by rw[hSa];exact aR.rW
  exact (o1.trans F.on).fresh (F':=[S.length]) (aR.set (by simp)) λj hj=>.inr (by rw[zau] at hj;omega)
 ·intro j hj
  have:=F.fp j (by rw[la];exact hj)
  omega
theorem HW (B:ia S b kc u (aB t0 t1 p0 p1) es (.hd y.a))(h:c9 S m y)(D:Dr m d n)(hn:n+1<=1000)(nb:b∉fp y)(nk:kc∉fp y)(hr:gV m e=none)(hl:es.length<=500):
  ∃S' y',EV [.hd b,e.t] S = .ok .br S'/\ia S' b kc u (aB t0 t1 p0 p1) (es++[e]) (.hd y'.a)/\c9 S' (gM m e) y'/\Dr (gM m e) d (n+1)/\b∉fp y'/\kc∉fp y'/\aR (kc::fp y) S S'/\∀j∈fp y',j∈fp y\/S.length<=j:=by
 obtain⟨S2,y2,k1,T,z2⟩:=Av h D.z hn e hr;have nb2:b∉fp y2:=λq=>(T.fp _ q).elim nb λq=>by have:=aK B.hb;omega
 have nk2:kc∉fp y2:=λq=>(T.fp _ q).elim nk λq=>by have:=aK B.hk;omega
 have B2:=B.only T.on nb nk;have hb:=B.hb;have U0:=B2.hb;have hk2:=B2.hk;have ha:=h.a;have hz:(es.length<sizeLine)=True:=iZ (by omega)
 refine⟨S2.set kc (.bM ((es++[e]).map bg.t)),y2,?_,⟨by rw[cU B.ne.symm,T.a];exact U0,bZ (aK hk2),B.ne⟩,T.yK.only (F:=[kc]) (aR.set (by simp)) (λj hj q=>by rw[zau] at q;subst q;exact nk2 hj),D.UQ e z2 hn,nb2,nk2,(T.on.mono λj hj=>by simp[hj]).trans (aR.set (by simp)),T.fp⟩
 unfold EV;unfold yP at hb U0;unfold mF at ha;rw[zaE,rO,zV];generalize aB t0 t1 p0 p1=sT at *
 generalize u.t=ut at *
 generalize e.t=et at *
 simp?[fx,om,hb,ha,k1,U0,hk2,hz]
theorem Ax (B:ia S b kc u (aB t0 t1 p0 p1) es cu):Pe [.hd b] S = .ok (.ls (es.map bg.t)) S:=by
 have hb:=B.hb;have hk:=B.hk;unfold yP at hb;unfold Pe;generalize aB t0 t1 p0 p1=sT at *
 generalize u.t=ut at *
 simp?[fx,om,hb,hk]
theorem Qa {m:M}(B:ia S b kc u (aB t0 t1 p0 p1) es cu)(l0:p0.length=d)(l1:p1.length=d)(d2:2<=d)(k9:d<=11)(hR:fW (cI u t0 t1 p0 p1) es=some m)(hl:es.length<=500):
  ∃S' y,Ui [.hd b] S = .ok (.hd S.length) S'/\Fm S S' m y d (22+es.length):=by
 have F0:=Fm.init u t0 t1 l0 l1 d2 k9 S;have e4:=vP u t0 t1 p0 p1 (by omega) (by omega) S
 have B0:=B.only F0.on (by simp) (by simp)
 have hb:=B.hb;have hb0:=B0.hb;have xj:=B0.hk;unfold Ui;unfold yP at hb hb0;generalize hI:j6 S (cI u t0 t1 p0 p1)=SI at *
 generalize hm0:cI u t0 t1 p0 p1=m0 at *
 generalize aB t0 t1 p0 p1=sT at *
 generalize hut:u.t=ut at *
 simp?[fx,om,hb,e4,hb0,xj];generalize hZ:fV _ _ _ _ _ _=Z
 obtain⟨τ,S',⟨⟨v,rfl⟩,m',y,F,pS⟩,rfl⟩:=gQ hZ (λi τ S'=>(∃v,τ=[some (.hd b),some (.hd S.length),v])/\∃m y,Fm S S' m y d (22+i)/\fW m0 (es.take i)=some m) (λi τ S' ⟨_,m,y,F,_⟩=>by
  show cL S' kc=_
  unfold cL;rw[F.on.at B.hk (by simp)]) ⟨⟨_,rfl⟩,m0,_,F0,by rw[zdc];rfl⟩ (by
  rintro i t τ S' ht ⟨⟨v,rfl⟩,m',y,F,pS⟩
  rw[zaq] at ht;cases he:es[i]? with
  |none=>rw[he] at ht;cases ht
  |some e =>
   rw[he] at ht;cases ht;have jg:=(zab.mp he).1
   obtain⟨m2,q1,q2⟩:=nu i hR;rw[pS] at q1;cases q1;have hr:=q2 e he;obtain⟨S2,y2,k1,F2,_⟩:=F.YJ (by omega) e hr
   have ha:=F.yK.a;rw[F.a] at ha;unfold mF at ha;refine⟨[some (.hd b),some (.hd S.length),some e.t],S2,.inl ?_,⟨_,rfl⟩,_,y2,F2,by rw[j7 pS he,if_pos hr]⟩
   generalize e.t=et at *
   simp?[fx,om,ha,k1])
 rw[zae] at F pS;rw[zaF,hR] at pS;cases pS;exact⟨S',y,by simp only[↓bp,bx,simprocAttr],F⟩
theorem Qc {e:Nat}{fs:List bg}(B:ia S b kc u (aB t0 t1 p0 p1) es cu)(he:S[e]? = some (.bM (fs.map bg.t)))(ne:b≠e)(l0:p0.length=d)(l1:p1.length=d)(d2:2<=d)(k9:d<=11)(hl:fs.length<=500):
  (∃m S' y,fW (cI u t0 t1 p0 p1) fs=some m/\CO [.hd b,.hd e] S = .ok .br S'/\ia S' b e u (aB t0 t1 p0 p1) fs (.hd y.a)/\c9 S' m y/\Dr m d (22+fs.length)/\(∀j∈fp y,S.length<=j)/\aR [b] S S') \/
  (∃S' i w,JM (cI u t0 t1 p0 p1) fs i w/\CO [.hd b,.hd e] S = .ok (.tp [.int (i:Int),.str w]) S'/\aR [] S S'):=by
 have F0:=Fm.init u t0 t1 l0 l1 d2 k9 S;have e4:=vP u t0 t1 p0 p1 (by omega) (by omega) S
 have B0:=B.only F0.on (by simp) (by simp)
 have hb:=B.hb;have hb0:=B0.hb;have he0:=F0.on.at he (by simp)
 unfold CO;unfold yP at hb hb0;have lb:=aK B.hb;generalize hI:j6 S (cI u t0 t1 p0 p1)=SI at *
 generalize hm0:cI u t0 t1 p0 p1=m0 at *
 generalize hsT:aB t0 t1 p0 p1=sT at *
 generalize hut:u.t=ut at *
 simp?[fx,om,hb,e4,he0];generalize hZ:fV _ _ _ _ _ _=Z
 have key:=HV hZ (λi τ S'=>(∃v w x,τ=[some (.hd b),some (.hd e),some (.hd S.length),v,w,x])/\∃m y,Fm S S' m y d (22+i)/\fW m0 (fs.take i)=some m) (λz=>∃S' i w,JM m0 fs i w/\z = .rt (.tp [.int ((i:Nat):Int),.str w]) S'/\aR [] S S') (λi τ S' ⟨_,m,y,F,_⟩=>by
  show cL S' e=_
  unfold cL;rw[F.on.at he (by simp)]) ⟨⟨_,_,_,rfl⟩,m0,_,F0,by rw[zdc];rfl⟩ (by
  rintro i t τ S' ht ⟨⟨v,w,x,rfl⟩,m',y,F,pS⟩
  obtain⟨w',hw,rfl⟩:=nP ht;rw[zaq] at hw;obtain⟨e',Pr,rfl⟩:∃e',fs[i]? = some e'/\w'=e'.t:=by
   cases hx:fs[i]? with
   |none=>rw[hx] at hw;cases hw
   |some x=>rw[hx] at hw;cases hw;exact⟨x,rfl,rfl⟩
  have jg:=(zab.mp Pr).1
  have ha:=F.yK.a;rw[F.a] at ha;unfold mF at ha;cases hr:gV m' e' with
  |none =>
   obtain⟨S2,y2,k1,F2,_⟩:=F.YJ (by omega) e' hr
   refine .inl ⟨[some (.hd b),some (.hd e),some (.hd S.length),some (.int (((0:Nat):Int)+(i:Int))),some e'.t,x],S2,?_,⟨_,_,_,rfl⟩,_,y2,F2,by rw[j7 pS Pr,if_pos hr]⟩
   generalize e'.t=et at *
   simp?[fx,om,ha,k1]
  |some wd =>
   obtain⟨S0,⟨G,e0⟩,k1⟩:=Aw F.yK F.D.z (by omega) e' wd hr
   rw[F.a] at k1;refine .inr (.inr ⟨.tp [.int (i:Int),.str wd],S0++[.rF "NotLet" [("rule",.str wd),("number",.int 0)]],?_,_,i,wd,⟨m',e',pS,Pr,hr⟩,rfl,?_⟩)
   rotate_left
   ·have on:aR [] S' (S0++[.rF "NotLet" [("rule",.str wd),("number",.int 0)]]):=by
     rw[e0,zaC];exact aR.rW
    exact F.on.trans on
   ·generalize e'.t=et at *
    simp?[fx,om,ha,k1,E7,zau,P9])
 rcases key with⟨τ,S',⟨⟨v,w,x,rfl⟩,m',y,F,pS⟩,rfl⟩|⟨S',i,w,k1,rfl,k2⟩
 ·rw[qm,zae] at F pS
  rw[zaF] at pS;have hb1:=F.on.at B.hb (by simp)
  have he1:=F.on.at he (by simp)
  have RN:=aK hb1;have ns:∀j∈fp y,j∉[b]:=λj hj q=>by
   have:=F.fp j hj
   rw[zau] at q;omega
  refine .inl ⟨m',S'.set b (.dZ "Book" (yP u sT e (.hd y.a))),y,pS,?_,⟨bZ RN,by rw[cU ne];exact he1,ne⟩,F.yK.only (F:=[b]) (aR.set (by simp)) ns,F.D,F.fp,(F.on.mono (by simp)).trans (aR.set (by simp))⟩
  rw[F.a];unfold yP at hb1 ⊢
  rw[hut] at *
  simp?[fx,om,hb1,RN,bZ,eL]
 ·refine .inr ⟨S',i,w,k1,?_,k2⟩
  simp only[↓bp,bx,simprocAttr]
end
noncomputable def Pu (S:Cs)(b:Nat)(u:U)(t0 t1:Str)(p0 p1:List Str)(d:Nat)(fs:List bg)(X:R Tr):Prop:=
 (∃m S' kc y,fW (cI u t0 t1 p0 p1) fs=some m/\X = .ok .br S'/\ia S' b kc u (aB t0 t1 p0 p1) fs (.hd y.a)/\S.length<=kc/\c9 S' m y/\Dr m d (22+fs.length)/\(∀j∈fp y,kc<j)/\aR [b] S S') \/
 (∃S' i w,JM (cI u t0 t1 p0 p1) fs i w/\X = .ok (.tp [.int ((i:Nat):Int),.str w]) S'/\aR [] S S')
section
variable {S:Cs}{b kc d:Nat}{u:U}{t0 t1:Str}{p0 p1:List Str}{es fs:List bg}{cu:Tr}
theorem Qd (B:ia S b kc u (aB t0 t1 p0 p1) es cu)(l0:p0.length=d)(l1:p1.length=d)(d2:2<=d)(k9:d<=11)(hl:fs.length<=500):Pu S b u t0 t1 p0 p1 d fs (CO [.hd b,.hd S.length] (S++[.bM (fs.map bg.t)])):=by
 have lb:=aK B.hb;have o1:aR [] S (S++[.bM (fs.map bg.t)]):=aR.rW
 rcases Qc (e:=S.length) (fs:=fs) (B.only o1 (by simp) (by simp)) (o9 _ _) (by omega) l0 l1 d2 k9 hl with⟨m,S',y,k1,k2,k3,k4,k5,k6,k7⟩|⟨S',i,w,k1,k2,k3⟩
 ·exact .inl ⟨m,S',S.length,y,k1,k2,k3,zah _,k4,k5,λj hj=>by have:=k6 j hj;simp at this;omega,(o1.mono (by simp)).trans k7⟩
 ·exact .inr ⟨S',i,w,k1,k2,o1.trans k3⟩
theorem Fg (h:0<=n/\n<c)(t:Tr)(S:Cs):JA [t,.int n,.int c] S = .ok .br S:=by
 unfold JA;have h1:(0<=n)=True:=eq_true h.1
 have h2:(n<c)=True:=eq_true h.2
 simp?[Vv,Dk,h1,h2]
theorem U1 (B:ia S b kc u (aB t0 t1 p0 p1) es cu)(l0:p0.length=d)(l1:p1.length=d)(d2:2<=d)(k9:d<=11)(hl:es.length<=400)(ha:a<es.length)(e:bg):Pu S b u t0 t1 p0 p1 d (es.take a++e::es.drop (a+1)) (Pa [.hd b,.int a,e.t] S):=by
 have P:=Qd (fs:=es.take a++e::es.drop (a+1)) B l0 l1 d2 k9 (by simp;omega)
 have hb:=B.hb;have hk:=B.hk;have c1:=qG (es.map bg.t) a
 have c2:=mQ (es.map bg.t) (a+1)
 have n1:=λS=>Fg (n:=(a:Int)) (c:=(es.length:Int)) ⟨by omega,by omega⟩ (.hd b) S
 rw[show ((a+1:Nat):Int)=(a:Int)+1 by omega] at c2
 have z1:(es.length<=sizeLine)=True:=aZ (by omega)
 have z2:(((es.map bg.t).take a).length+1<=sizeLine)=True:=aZ (by simp;omega)
 have z3:(((es.map bg.t).take a).length+1+((es.map bg.t).drop (a+1)).length<=sizeLine)=True:=aZ (by simp;omega)
 have ef:(es.take a++e::es.drop (a+1)).map bg.t=(es.map bg.t).take a++e.t::(es.map bg.t).drop (a+1):=by simp
 unfold Pu at P ⊢
 rw[ef] at P;have lm:(es.map bg.t).length=es.length:=by simp
 unfold yP at hb;generalize es.map bg.t=L at *
 rcases P with⟨m,S',kc',y,k1,k2,k3⟩|⟨S',i,w,k1,k2,k3⟩
 ·refine .inl ⟨m,S',kc',y,k1,?_,k3⟩
  clear k3
  unfold Pa;generalize aB t0 t1 p0 p1=sT at *
  generalize u.t=ut at *
  generalize e.t=et at *
  simp?[fx,om,hb,hk,n1,c1,c2,z1,z2,z3,lm,k2,mq,lR,zaC,GB,Dm,zag,zU,Es]
 ·refine .inr ⟨S',i,w,k1,?_,k3⟩
  unfold Pa;generalize aB t0 t1 p0 p1=sT at *
  generalize u.t=ut at *
  generalize e.t=et at *
  simp?[fx,om,hb,hk,n1,c1,c2,z1,z2,z3,lm,k2,mq,lR,zaC,GB,Dm,zag,zU,Es]
theorem anM (B:ia S b kc u (aB t0 t1 p0 p1) es cu)(l0:p0.length=d)(l1:p1.length=d)(d2:2<=d)(k9:d<=11)(hl:es.length<=400)(ha:a<=es.length)(e:bg):Pu S b u t0 t1 p0 p1 d (es.take a++e::es.drop a) (O_ [.hd b,.int a,e.t] S):=by
 have P:=Qd (fs:=es.take a++e::es.drop a) B l0 l1 d2 k9 (by simp;omega)
 have hb:=B.hb;have hk:=B.hk;have c1:=qG (es.map bg.t) a
 have c2:=mQ (es.map bg.t) a
 have n1:=λS=>Fg (n:=(a:Int)) (c:=(es.length:Int)+1) ⟨by omega,by omega⟩ (.hd b) S
 have z1:(es.length<=sizeLine)=True:=aZ (by omega)
 have z2:(((es.map bg.t).take a).length+1<=sizeLine)=True:=aZ (by simp;omega)
 have z3:(((es.map bg.t).take a).length+1+((es.map bg.t).drop a).length<=sizeLine)=True:=aZ (by simp;omega)
 have ef:(es.take a++e::es.drop a).map bg.t=(es.map bg.t).take a++e.t::(es.map bg.t).drop a:=by simp
 unfold Pu at P ⊢
 rw[ef] at P;have lm:(es.map bg.t).length=es.length:=by simp
 unfold yP at hb;generalize es.map bg.t=L at *
 rcases P with⟨m,S',kc',y,k1,k2,k3⟩|⟨S',i,w,k1,k2,k3⟩
 ·refine .inl ⟨m,S',kc',y,k1,?_,k3⟩
  clear k3
  unfold O_;generalize aB t0 t1 p0 p1=sT at *
  generalize u.t=ut at *
  generalize e.t=et at *
  simp?[fx,om,hb,hk,n1,c1,c2,z1,z2,z3,lm,k2,mq,lR,zaC,GB,Dm,zag,zU,Es]
 ·refine .inr ⟨S',i,w,k1,?_,k3⟩
  unfold O_;generalize aB t0 t1 p0 p1=sT at *
  generalize u.t=ut at *
  generalize e.t=et at *
  simp?[fx,om,hb,hk,n1,c1,c2,z1,z2,z3,lm,k2,mq,lR,zaC,GB,Dm,zag,zU,Es]
theorem ajY (B:ia S b kc u (aB t0 t1 p0 p1) es cu)(l0:p0.length=d)(l1:p1.length=d)(d2:2<=d)(k9:d<=11)(hl:es.length<=400)(ha:a<es.length):Pu S b u t0 t1 p0 p1 d (es.take a++es.drop (a+1)) (Pb [.hd b,.int a] S):=by
 have P:=Qd (fs:=es.take a++es.drop (a+1)) B l0 l1 d2 k9 (by simp;omega)
 have hb:=B.hb;have hk:=B.hk;have c1:=qG (es.map bg.t) a
 have c2:=mQ (es.map bg.t) (a+1)
 have n1:=λS=>Fg (n:=(a:Int)) (c:=(es.length:Int)) ⟨by omega,by omega⟩ (.hd b) S
 rw[show ((a+1:Nat):Int)=(a:Int)+1 by omega] at c2
 have z1:(es.length<=sizeLine)=True:=aZ (by omega)
 have z3:(((es.map bg.t).take a).length+((es.map bg.t).drop (a+1)).length<=sizeLine)=True:=aZ (by simp;omega)
 have ef:(es.take a++es.drop (a+1)).map bg.t=(es.map bg.t).take a++(es.map bg.t).drop (a+1):=by simp
 unfold Pu at P ⊢
 rw[ef] at P;have lm:(es.map bg.t).length=es.length:=by simp
 unfold yP at hb;generalize es.map bg.t=L at *
 rcases P with⟨m,S',kc',y,k1,k2,k3⟩|⟨S',i,w,k1,k2,k3⟩
 ·refine .inl ⟨m,S',kc',y,k1,?_,k3⟩
  clear k3
  unfold Pb;generalize aB t0 t1 p0 p1=sT at *
  generalize u.t=ut at *
  simp?[fx,om,hb,hk,n1,c1,c2,z1,z3,lm,k2,mq,lR]
 ·refine .inr ⟨S',i,w,k1,?_,k3⟩
  unfold Pb;generalize aB t0 t1 p0 p1=sT at *
  generalize u.t=ut at *
  simp?[fx,om,hb,hk,n1,c1,c2,z1,z3,lm,k2,mq,lR]
end
theorem Qe (cs:List Int)(j:Nat)(v:Int):(cs.map Tr.int).set j (.int v)=(cs.set j v).map .int:=by rw[List.map_set]
theorem aeM (ns:List Int)(Kf:ns.length<=63)(S:Cs):∃cs:List Int,GX [.kl (ns.map .int),.int 40] S = .ok (.ls (cs.map .int)) S/\cs.length<=40:=by
 unfold GX;generalize hB:cT NX _=q
 have IA:∃cs:List Int,q [.kl (ns.map .int),.int 40] S = .ok (.hd S.length) (S++[.bM (cs.map .int)])/\cs.length<=40:=by
  subst hB;simp only[↓bp,bx,simprocAttr];generalize hZ:fV _ _ _ _ _ _=Z
  obtain⟨τ,S',⟨⟨v,w,rfl⟩,cs,rfl,h1,h2,h3⟩,rfl⟩:=gQ hZ (λi τ S'=>(∃v w,τ=[some (.kl (ns.map .int)),some (.int 40),some (.hd S.length),v,w])/\∃cs:List Int,S'=S++[.bM (cs.map .int)]/\cs.length<=40/\(i<40->cs.length=i)/\(40<=i->cs.length=40)) (λ_ _ _ _=>trivial) ⟨⟨_,_,rfl⟩,[],rfl,by simp,λ_=>rfl,λh=>by omega⟩ (by
   rintro i t τ S' ht ⟨⟨v,w,rfl⟩,cs,rfl,h1,h2,h3⟩
   obtain⟨w',hw,rfl⟩:=nP ht;rw[zaq] at hw;obtain⟨n,hn,rfl⟩:∃n,ns[i]? = some n/\w' = .int n:=by
    cases hx:ns[i]? with
    |none=>rw[hx] at hw;cases hw
    |some x=>rw[hx] at hw;cases hw;exact⟨x,rfl,rfl⟩
   have hz:(cs.length<sizeLine)=True:=iZ (by omega)
   by_cases q:i<40
   ·have q':((i:Int)<40)=True:=eq_true (by omega)
    refine⟨[some (.kl (ns.map .int)),some (.int 40),some (.hd S.length),some (.int (((0:Nat):Int)+(i:Int))),some (.int n)],S++[.bM ((cs++[n]).map .int)],.inl ?_,⟨_,_,rfl⟩,cs++[n],rfl,by rw[zag,h2 q];simp;omega,λ_=>by simp[h2 q],λh=>by rw[zag,h2 q];simp;omega⟩
    rw[zaE,rO,zV];simp?[q',Dk,hz,E7,sa0]
   ·have q':¬ ((i:Int)<40):=by omega
    have lc:=h3 (by omega)
    obtain⟨x,_,ex⟩:=zF (l:=cs) (n:=(i:Int)) (m:=40) (by omega) (by decide)
    have et:iz (cs.map Tr.int) ((i:Int) % 40)=some (.int x):=by rw[C6,ex];rfl
    have ei:AA cs.length ((i:Int) % 40)=some (i % 40):=by
     unfold AA;rw[lc];rw[if_pos (by omega),if_pos (by omega)]
     congr 1
    refine⟨[some (.kl (ns.map .int)),some (.int 40),some (.hd S.length),some (.int (((0:Nat):Int)+(i:Int))),some (.int n)],S++[.bM ((cs.set (i % 40) (x * 31+n)).map .int)],.inl ?_,⟨_,_,rfl⟩,cs.set (i % 40) (x * 31+n),rfl,by simp[lc],λh=>by omega,λ_=>by simp[lc]⟩
    rw[<-Qe];simp?[q',Dk,et,ei,E7,sa0])
  exact⟨cs,by simp only[↓bp,bx,simprocAttr],h1⟩
 obtain⟨cs,e1,e2⟩:=IA;refine⟨cs,fF (S1:=S++[.bM (cs.map .int)]) (t:=.hd S.length) e1 (xo _ _) ?_,e2⟩
 unfold nN;have hq:cL (S++[.bM (cs.map .int)]) S.length=some (cs.map .int):=by unfold cL;rw[E7]
 have:(cs.map Tr.int).all (Tr.aE S.length)=true:=by
  rw[zaK];intro t ht;obtain⟨e,_,rfl⟩:=zbl.mp ht;rfl
 simp only[hq,zaJ,if_false,fZ,this,if_true]
theorem Qf (h:a<es.length):∃e,es[a]? = some e/\es=es.take a++e::es.drop (a+1):=by
 refine⟨es[a],zad h,?_⟩
 rw[<-zcu h,List.take_append_drop]
theorem JM.HZ (h:JM m0 fs i w)(g:JM m0 fs j v):i=j/\w=v:=by
 have key:∀{i j:Nat} {w v:Str},JM m0 fs i w->JM m0 fs j v->¬ i<j:=λ{i j w v} h g q=>by
  obtain⟨m1,e1,a1,a2,a3⟩:=h;obtain⟨m2,e2,b1,b2,b3⟩:=g;obtain⟨m3,c1,c2⟩:=nu i b1;rw[List.take_take,zcv (by omega),a1] at c1
  cases c1
  have:=c2 e1 (by rw[List.getElem?_take,if_pos q];exact a2)
  rw[a3] at this;cases this
 have e:i=j:=by
  have:=key h g
  have:=key g h
  omega
 subst e;obtain⟨m1,e1,a1,a2,a3⟩:=h;obtain⟨m2,e2,b1,b2,b3⟩:=g;rw[a1] at b1;cases b1;rw[a2] at b2;cases b2;rw[a3] at b3;cases b3;exact⟨rfl,rfl⟩
theorem aeN (i:Int)(w:Str)(S:Cs):HC [.tp [.int i,.str w]] S = .ok (.bl true) S:=by
 unfold HC;simp only[↓bp,bx,simprocAttr]
theorem YK (cs:List Int)(hl:cs.length<=100)(k0:0<=k)(k1:k<8000)(t0 t1:Str)(l0:p0.length=d)(l1:p1.length=d)(d2:2<=d)(k9:d<=11)(K:List bg)(hK:K.length<=400)(S:Cs):∃e:bg,CM [.ls (cs.map .int),.int k,aB t0 t1 p0 p1,.ls (K.map bg.t)] S = .ok e.t S:=by
 have W:=λ(j cW:Int) (k0:0<=j) (k1:j<10000) (h0:0<cW) (h1:cW<1000000)=>And.intro (yO cs j h0) (qI cs hl k0 k1 h0 h1 S)
 obtain⟨⟨a1,b1⟩,e1⟩:=W k 6 (by omega) (by omega) (by decide) (by decide)
 obtain⟨⟨a2,b2⟩,e2⟩:=W (k+1) 3 (by omega) (by omega) (by decide) (by decide)
 obtain⟨⟨a3,b3⟩,e3⟩:=W (k+2) 3 (by omega) (by omega) (by decide) (by decide)
 obtain⟨⟨a4,b4⟩,e4⟩:=W (k+1) ((p0++p1++[Str.ofString "nobodyzz"]).length:Int) (by omega) (by omega) (by simp;omega) (by simp;omega)
 obtain⟨x,_,f⟩:=gW (l:=p0++p1++[Str.ofString "nobodyzz"]) a4 b4
 obtain⟨b,fb⟩:=HS cs hl (k:=k+3) (by omega) (by omega) x x (st:=[.str "",.str x,.str x,.str ""]) rfl rfl S
 have z3:(p0.length+p1.length<=sizeLine)=True:=aZ (by omega)
 have z4:(p0.length+p1.length+1<=sizeLine)=True:=aZ (by omega)
 have zK:(K.length<=sizeLine)=True:=aZ (by omega)
 rw[zaE,zaE,rO,zV] at f;rw[zag,zag,zaR] at e4 f;unfold CM aB;have Qt:(K.map bg.t).length=K.length:=by simp
 by_cases q0:dv cs k 6=0/\0<K.length
 ·obtain⟨⟨a5,b5⟩,e5⟩:=W (k+1) (K.length:Int) (by omega) (by omega) (by omega) (by omega)
  obtain⟨a,ha⟩:=zbd a5;rw[ha] at e5 b5;obtain⟨e,he,_⟩:=Qf (es:=K) (a:=a) (by omega)
  have hat:iz (K.map bg.t) (a:Int)=some e.t:=gy (by rw[zaq,he];rfl)
  have hp:(0<(K.length:Int))=True:=eq_true (by omega)
  refine⟨e,?_⟩
  generalize cs.map Tr.int=X at *
  generalize K.map bg.t=L at *
  generalize e.t=et at *
  simp?[fx,e1,q0.1,hp,zK,Qt,D8,IU,e5,hat]
 ·have q0':dv cs k 6=0->¬ 0<(K.length:Int):=λz w=>q0 ⟨z,by omega⟩
  generalize K.map bg.t=L at *
  generalize cs.map Tr.int=X at *
  generalize dv cs k 6=v1 at *
  generalize dv cs (k+1) 3=v2 at *
  generalize dv cs (k+2) 3=v3 at *
  generalize dv cs (k+1) ((p0.length+p1.length+1:Nat):Int)=v4 at *
  generalize hI:cP (l9 _ _) _ _=I0
  have key:∀x5 x6,I0 [some (.ls X),some (.int k),some (.ls [.tp [.str t0,.ls (p0.map .str)],.tp [.str t1,.ls (p1.map .str)]]),some (.ls L),some (.int v1),x5,x6] S = .nx [some (.ls X),some (.int k),some (.ls [.tp [.str t0,.ls (p0.map .str)],.tp [.str t1,.ls (p1.map .str)]]),some (.ls L),some (.int v1),x5,x6] S:=λx5 x6=>by
   subst hI;by_cases q:v1=0
   ·have:=q0' q
    simp?[fx,q,this,zK,Qt,D8,IU]
   ·simp?[fx,q]
  by_cases q1:v1=1
  ·obtain⟨t,ht,et⟩:=vQ (l:=[bg.fO.t,bg.lF.t,bg.gU.t]) a2 b2
   obtain⟨e,rfl⟩:∃e:bg,t=e.t:=by
    simp only[zan,zaL,or_false] at ht;rcases ht with rfl|rfl|rfl<;>exact⟨_,rfl⟩
   refine⟨e,?_⟩
   generalize hE:e.t=eT at *
   unfold bg.t at et;rw[q1] at e1 key;simp?[fx,e1,key,e2,et]
  ·by_cases q2:v1=2
   ·obtain⟨t,ht,et⟩:=vQ (l:=[(bg.q8 x).t,(bg.pK x).t,(bg.pL x).t]) a3 b3
    obtain⟨e,rfl⟩:∃e:bg,t=e.t:=by
     simp only[zan,zaL,or_false] at ht;rcases ht with rfl|rfl|rfl<;>exact⟨_,rfl⟩
    refine⟨e,?_⟩
    generalize hE:e.t=eT at *
    unfold bg.t at et;rw[q2] at e1 key;simp?[fx,e1,key,z3,z4,e4,f,e3,et,zag,zae,zU,Es]
   ·refine⟨.pJ b,?_⟩
    show _=R.ok b.t S
    generalize b.t=bt at *
    simp?[fx,e1,key,q1,q2,z3,z4,e4,f,fb,zag,zae,zU,Es]
section
variable {S:Cs}{b kc d:Nat}{u:U}{t0 t1:Str}{p0 p1:List Str}{es:List bg}{cu:Tr}
theorem U3 (B:ia S b kc u (aB t0 t1 p0 p1) es (.hd y.a))(h:c9 S m y)(D:Dr m d n)(hn:n+1<=1000)(nb:b∉fp y)(nk:kc∉fp y)(hl:es.length<=500)(e:bg):
  (∃S' y',gV m e=none/\jW [.hd b,e.t] S = .ok (.str "") S'/\ia S' b kc u (aB t0 t1 p0 p1) (es++[e]) (.hd y'.a)/\c9 S' (gM m e) y'/\Dr (gM m e) d (n+1)/\b∉fp y'/\kc∉fp y') \/
  (∃S' w,gV m e=some w/\jW [.hd b,e.t] S = .ok (.str w) S'/\aR [] S S'):=by
 have hb:=B.hb;unfold jW;unfold yP at hb;cases hr:gV m e with
 |none =>
  obtain⟨S',y',k1,k2,k3,k4,k5,k6,_,_⟩:=HW (e:=e) B h D hn nb nk hr hl
  refine .inl ⟨S',y',rfl,?_,k2,k3,k4,k5,k6⟩
  generalize aB t0 t1 p0 p1=sT at *
  generalize u.t=ut at *
  generalize e.t=et at *
  simp?[fx,om,hb,k1]
 |some w =>
  obtain⟨S0,⟨G,e0⟩,k1⟩:=Aw h D.z hn e w hr
  have on:aR [] S (S0++[.rF "NotLet" [("rule",.str w),("number",.int 0)]]):=by
   rw[e0,zaC];exact aR.rW
  have ha:=h.a;unfold mF at ha;have k2:EV [.hd b,e.t] S = .ex S0.length (S0++[.rF "NotLet" [("rule",.str w),("number",.int 0)]]):=by
   unfold EV;generalize aB t0 t1 p0 p1=sT at *
   generalize u.t=ut at *
   generalize e.t=et at *
   simp?[fx,om,hb,ha,k1,R.aam,R.zq]
  refine .inr ⟨_,w,rfl,?_,on⟩
  generalize aB t0 t1 p0 p1=sT at *
  generalize u.t=ut at *
  generalize e.t=et at *
  simp?[fx,om,hb,k2,E7,zau,P9]
theorem U4 (u:U)(t0 t1:Str)(l0:p0.length=d)(l1:p1.length=d)(d2:2<=d)(k9:d<=11)(fs:List bg)(hl:fs.length<=500)(S:Cs):
  (∃m S' y,fW (cI u t0 t1 p0 p1) fs=some m/\pH [u.t,aB t0 t1 p0 p1,.ls (fs.map bg.t)] S = .ok (.tp [.hd S.length,.br]) S'/\Fm S S' m y d (22+fs.length)) \/
  (∃S' i w,JM (cI u t0 t1 p0 p1) fs i w/\pH [u.t,aB t0 t1 p0 p1,.ls (fs.map bg.t)] S = .ok (.tp [.hd S.length,.tp [.int (i:Int),.str w]]) S'/\aR [] S S'):=by
 have F0:=Fm.init u t0 t1 l0 l1 d2 k9 S;have e4:=vP u t0 t1 p0 p1 (by omega) (by omega) S
 unfold pH;generalize hI:j6 S (cI u t0 t1 p0 p1)=SI at *
 generalize hm0:cI u t0 t1 p0 p1=m0 at *
 generalize aB t0 t1 p0 p1=sT at *
 generalize u.t=ut at *
 simp?[fx,e4];generalize hZ:fV _ _ _ _ _ _=Z
 have key:=HV hZ (λi τ S'=>(∃v w x,τ=[some ut,some sT,some (.ls (fs.map bg.t)),some (.hd S.length),v,w,x])/\∃m y,Fm S S' m y d (22+i)/\fW m0 (fs.take i)=some m) (λz=>∃S' i w,JM m0 fs i w/\z = .rt (.tp [.hd S.length,.tp [.int ((i:Nat):Int),.str w]]) S'/\aR [] S S') (λ_ _ _ _=>trivial) ⟨⟨_,_,_,rfl⟩,m0,_,F0,by rw[zdc];rfl⟩ (by
  rintro i t τ S' ht ⟨⟨v,w,x,rfl⟩,m',y,F,pS⟩
  obtain⟨w',hw,rfl⟩:=nP ht;rw[zaq] at hw;obtain⟨e',Pr,rfl⟩:∃e',fs[i]? = some e'/\w'=e'.t:=by
   cases hx:fs[i]? with
   |none=>rw[hx] at hw;cases hw
   |some x=>rw[hx] at hw;cases hw;exact⟨x,rfl,rfl⟩
  have jg:=(zab.mp Pr).1
  obtain⟨S2,y2,m2,k1,T,z2,em⟩:=Fd F.yK F.D.z (by omega) e'
  rw[F.a] at k1;cases hr:gV m' e' with
  |none =>
   rw[hr] at k1 em;rw[if_pos rfl] at em;subst em;refine .inl ⟨[some ut,some sT,some (.ls (fs.map bg.t)),some (.hd S.length),some (.int (((0:Nat):Int)+(i:Int))),some e'.t,some (.str "")],S2,?_,⟨_,_,_,rfl⟩,_,y2,F.UX T (F.D.UQ e' z2 (by omega)),by rw[j7 pS Pr,if_pos hr]⟩
   generalize e'.t=et at *
   generalize fs.map bg.t=L at *
   simp?[fx,k1,zbF]
  |some wd =>
   rw[hr] at k1 em;rw[if_neg (by simp)] at em
   subst em;have hx:=Fe hr;refine .inr (.inr ⟨.tp [.hd S.length,.tp [.int (i:Int),.str wd]],S2,?_,S2,i,wd,⟨_,e',pS,Pr,hr⟩,rfl,F.on.fresh T.on λj hj=>.inr (F.fp j hj)⟩)
   generalize e'.t=et at *
   generalize fs.map bg.t=L at *
   simp?[fx,k1,hx,zbU])
 rcases key with⟨τ,S',⟨⟨v,w,x,rfl⟩,m',y,F,pS⟩,rfl⟩|⟨S',i,w,k1,rfl,k2⟩
 ·rw[qm,zae] at F pS
  rw[zaF] at pS;exact .inl ⟨m',S',y,pS,by simp only[↓bp,bx,simprocAttr],F⟩
 ·exact .inr ⟨S',i,w,k1,by simp only[↓bp,bx,simprocAttr],k2⟩
end
noncomputable def Pv (S:Cs)(b:Nat)(u:U)(t0 t1:Str)(p0 p1:List Str)(d:Nat)(fs:List bg)(X:R Tr):Prop:=
 (∃m S' kc y,fW (cI u t0 t1 p0 p1) fs=some m/\X = .ok (.tp [.ls (fs.map bg.t),.br]) S'/\ia S' b kc u (aB t0 t1 p0 p1) fs (.hd y.a)/\S.length<=kc/\c9 S' m y/\Dr m d (22+fs.length)/\(∀j∈fp y,kc<j)/\aR [b] S S') \/
 (∃S' i w,JM (cI u t0 t1 p0 p1) fs i w/\X = .ok (.tp [.ls (fs.map bg.t),.tp [.int ((i:Nat):Int),.str w]]) S'/\aR [] S S')
theorem Pu.pv (h:Pu S b u t0 t1 p0 p1 d fs X)(k:∀t S',X = .ok t S'->Y = .ok (.tp [.ls (fs.map bg.t),t]) S'):Pv S b u t0 t1 p0 p1 d fs Y:=by
 rcases h with⟨m,S',kc,y,k1,k2,k3⟩|⟨S',i,w,k1,k2,k3⟩
 ·exact .inl ⟨m,S',kc,y,k1,k _ _ k2,k3⟩
 ·exact .inr ⟨S',i,w,k1,k _ _ k2,k3⟩
theorem C7:nQ false (.ls l) (.ls []) S = .ok (.bl l.isEmpty) S:=by
 unfold nQ;show (if l.length=0 then _ else _)=_
 cases l with
 |nil =>
  rw[if_pos (show ([]:List Tr).length=0 from rfl),P7 rfl rfl]
  rfl
 |cons x r =>
  rw[if_neg (by simp)]
  rfl
theorem U5 (h:0<l.length):nQ false (.ls l) (.ls []) S = .ok (.bl false) S:=by
 cases l with
 |nil=>exact absurd h (zaJ _)
 |cons x r=>exact C7
theorem Qg (cs:List Int)(hl:cs.length<=100)(k0:0<=k)(k1:k<7000)(B:ia S b kc u (aB t0 t1 p0 p1) es cu)(l0:p0.length=d)(l1:p1.length=d)(d2:2<=d)(k9:d<=11)(Kh:es.length<=400):
  ∃fs:List bg,fs.length<=es.length+1/\Pv S b u t0 t1 p0 p1 d fs (yD [.ls (cs.map .int),.int k,.hd b,aB t0 t1 p0 p1,.ls (es.map bg.t)] S):=by
 have W:=λ(j cW:Int) (k0:0<=j) (k1:j<10000) (h0:0<cW) (h1:cW<1000000)=>And.intro (yO cs j h0) (qI cs hl k0 k1 h0 h1 S)
 obtain⟨⟨a1,b1⟩,e1⟩:=W k 3 (by omega) (by omega) (by decide) (by decide)
 obtain⟨o,eo⟩:=YK cs hl (k:=k+1) (by omega) (by omega) t0 t1 l0 l1 d2 k9 es Kh S
 have hb:=B.hb;unfold yP at hb;have zK:(es.length<=sizeLine)=True:=aZ (by omega)
 have Qt:(es.map bg.t).length=es.length:=by simp
 by_cases q:dv cs k 3=0\/es=[]
 ·obtain⟨⟨a5,b5⟩,e5⟩:=W (k+15) ((es.length:Int)+1) (by omega) (by omega) (by omega) (by omega)
  obtain⟨a,ha⟩:=zbd a5;rw[ha] at e5 b5;have c1:=qG (es.map bg.t) a
  have c2:=mQ (es.map bg.t) a
  have z2:(((es.map bg.t).take a).length+1<=sizeLine)=True:=aZ (by simp;omega)
  have z3:(((es.map bg.t).take a).length+1+((es.map bg.t).drop a).length<=sizeLine)=True:=aZ (by simp;omega)
  refine⟨es.take a++o::es.drop a,by simp;omega,(anM B l0 l1 d2 k9 Kh (a:=a) (by omega) o).pv λt S' ht=>?_⟩
  have ef:(es.take a++o::es.drop a).map bg.t=(es.map bg.t).take a++o.t::(es.map bg.t).drop a:=by simp
  rw[ef];have g1:es=[]->nQ false (.ls (es.map bg.t)) (.ls []) S = .ok (.bl true) S:=λz=>by rw[C7,z];rfl
  unfold yD;generalize es.map bg.t=L at *
  generalize cs.map Tr.int=X at *
  generalize o.t=ot at *
  generalize aB t0 t1 p0 p1=sT at *
  generalize u.t=ut at *
  by_cases q0:dv cs k 3=0
  ·simp?[fx,om,e1,eo,q0,zK,Qt,e5,c1,c2,z2,z3,hb,ht,lR,zaC,GB,Dm,zag,zU,Es]
  ·have g2:=g1 (q.resolve_left q0)
   simp?[fx,om,e1,eo,q0,↓g2,zK,Qt,e5,c1,c2,z2,z3,hb,ht,lR,zaC,GB,Dm,zag,zU,Es]
 ·have q0:¬ dv cs k 3=0:=λz=>q (.inl z)
  have qe:¬ es=[]:=λz=>q (.inr z)
  have lp:=List.length_pos_iff.mpr qe;have g2:nQ false (.ls (es.map bg.t)) (.ls []) S = .ok (.bl false) S:=U5 (by rw[Qt];omega)
  obtain⟨⟨a5,b5⟩,e5⟩:=W (k+15) (es.length:Int) (by omega) (by omega) (by omega) (by omega)
  obtain⟨a,ha⟩:=zbd a5;rw[ha] at e5 b5;have c1:=qG (es.map bg.t) a
  have c2:=mQ (es.map bg.t) (a+1)
  rw[show ((a+1:Nat):Int)=(a:Int)+1 by omega] at c2
  have z2:(((es.map bg.t).take a).length+1<=sizeLine)=True:=aZ (by simp;omega)
  have z3:(((es.map bg.t).take a).length+1+((es.map bg.t).drop (a+1)).length<=sizeLine)=True:=aZ (by simp;omega)
  have z4:(((es.map bg.t).take a).length+((es.map bg.t).drop (a+1)).length<=sizeLine)=True:=aZ (by simp;omega)
  have ef:(es.take a++o::es.drop (a+1)).map bg.t=(es.map bg.t).take a++o.t::(es.map bg.t).drop (a+1):=by simp
  have eg:(es.take a++es.drop (a+1)).map bg.t=(es.map bg.t).take a++(es.map bg.t).drop (a+1):=by simp
  by_cases q1:dv cs k 3=1
  ·refine⟨es.take a++o::es.drop (a+1),by simp;omega,(U1 B l0 l1 d2 k9 Kh (a:=a) (by omega) o).pv λt S' ht=>?_⟩
   rw[ef];unfold yD;generalize es.map bg.t=L at *
   generalize cs.map Tr.int=X at *
   generalize o.t=ot at *
   generalize aB t0 t1 p0 p1=sT at *
   generalize u.t=ut at *
   simp?[fx,om,e1,eo,q1,↓g2,zK,Qt,e5,c1,c2,z2,z3,hb,ht,lR,zaC,GB,Dm,zag,zU,Es]
  ·refine⟨es.take a++es.drop (a+1),by simp;omega,(ajY B l0 l1 d2 k9 Kh (a:=a) (by omega)).pv λt S' ht=>?_⟩
   rw[eg];unfold yD;generalize es.map bg.t=L at *
   generalize cs.map Tr.int=X at *
   generalize o.t=ot at *
   generalize aB t0 t1 p0 p1=sT at *
   generalize u.t=ut at *
   simp?[fx,om,e1,eo,q0,q1,↓g2,zK,Qt,e5,c1,c2,z4,hb,ht,lR]
theorem vU (neg:Bool)(es:List bg)(S:Cs):cR neg (.ls (es.map bg.t)) (.ls (es.map bg.t)) S = .ok (.bl (!neg)) S:=by
 refine C4 (.inl rfl) (.inl rfl) ?_ (yN λt ht=>?_)
 ·rw[f9,zdD,zaK]
  intro e _;cases e<;>rfl
 ·obtain⟨e,_,rfl⟩:=zbl.mp ht
  cases e<;>simp[bg.t,B.t,Tr.dp,Tr.pR]
theorem law (ns:List Int)(Kf:ns.length<=63):∃S,Pj [.kl (ns.map .int)] [] = .ok (.bl true) S:=by
 obtain⟨cs,ec,lc⟩:=aeM ns Kf []
 obtain⟨u,eu,u2,u11⟩:=P1 cs (by omega) []
 obtain⟨d,hd⟩:=zbd (by omega:0<=u.d)
 have d2:2<=d:=by omega
 have k9:d<=11:=by omega
 obtain⟨t0,t1,p0,p1,et,l0,l1⟩:=P5 cs (by omega) d d2 k9 []
 have hg5:∀S,bH u.t (.int 5) S = .ok (.int (d:Int)) S:=λS=>by rw[<-hd];rfl
 obtain⟨mn,hmn,atA⟩:∃mn:Nat,(∀S,w9 [.int 60,.int (3 * (cs.length:Int))] S = .ok (.int (mn:Int)) S)/\mn<=60:=by
  by_cases q:60<=3 * cs.length
  ·exact⟨60,λS=>by unfold w9;simp only[];split<;>first|rfl | (congr 2;omega)|omega,zah _⟩
  ·exact⟨3 * cs.length,λS=>by unfold w9;simp only[];split<;>first|rfl | (congr 2;omega)|omega,by omega⟩
 obtain⟨es,mN,ee,hR,Kh⟩:=Ff cs (by omega) u t0 t1 l0 l1 d2 k9 mn (by omega) []
 obtain⟨S1,y1,eb,B1,M1,_,f1⟩:=UZ u t0 t1 l0 l1 d2 k9 []
 have eb:O5 [.hd 0,u.t,aB t0 t1 p0 p1] [.dZ "Book" []] = .ok .br S1:=eb
 have B1:ia S1 0 1 u (aB t0 t1 p0 p1) [] (.hd y1.a):=B1
 have f1:∀j∈fp y1,2<=j:=f1
 have D1:Dr (cI u t0 t1 p0 p1) d 22:=(Fm.init u t0 t1 l0 l1 d2 k9 []).D
 have zc:(cs.length<=sizeLine)=True:=aZ (by omega)
 have tur:=λ(S:Cs) (kc:Nat) (es:List bg) (cu:Tr) (B:ia S 0 kc u (aB t0 t1 p0 p1) es cu) (k:Int) (k0:0<=k) (k1:k<7000) (Kh:es.length<=400)=>Qg cs (by omega) k0 k1 B l0 l1 d2 k9 Kh
 have fre:=λ(fs:List bg) (hl:fs.length<=500) (S:Cs)=>U4 u t0 t1 l0 l1 d2 k9 fs hl S
 have odd:=λ(k:Int) (k0:0<=k) (k1:k<8000) (K:List bg) (hK:K.length<=400) (S:Cs)=>YK cs (by omega) k0 k1 t0 t1 l0 l1 d2 k9 K hK S
 have mat:=λ(S:Cs) (kc:Nat) (es:List bg) (cu:Tr) (m:M) (B:ia S 0 kc u (aB t0 t1 p0 p1) es cu) (hR:fW (cI u t0 t1 p0 p1) es=some m) (hl:es.length<=500)=>Qa B l0 l1 d2 k9 hR hl
 unfold Pj;have lX:(cs.map Tr.int).length=cs.length:=by simp
 unfold Pv at tur;generalize hX:cs.map Tr.int=X at *
 generalize hm0:cI u t0 t1 p0 p1=m0 at *
 simp?[fx,om,ec,eu,↓hg5,et,lX,zc,↓hmn,ee,eb];generalize hZ:fV _ _ _ _ _ _=Z
 obtain⟨τ,S2,⟨⟨v,rfl⟩,m',y,B,Mt,D,pS,nb,nk⟩,rfl⟩:=gQ hZ (λi τ S'=>(∃v,τ=[some (.kl (ns.map .int)),some (.ls X),some u.t,some (aB t0 t1 p0 p1),some (.ls (es.map bg.t)),some (.hd 0),v,none,none,none,none,none,none,none])/\∃m y,ia S' 0 1 u (aB t0 t1 p0 p1) (es.take i) (.hd y.a)/\c9 S' m y/\Dr m d (22+i)/\fW m0 (es.take i)=some m/\0∉fp y/\1∉fp y) (λ_ _ _ _=>trivial) ⟨⟨_,rfl⟩,m0,y1,B1,M1,D1,by rw[zdc];rfl,λq=>by have:=f1 _ q;omega,λq=>by have:=f1 _ q;omega⟩ (by
  rintro i t τ S' ht ⟨⟨v,rfl⟩,m',y,B,Mt,D,pS,nb,nk⟩
  rw[zaq] at ht;cases he:es[i]? with
  |none=>rw[he] at ht;cases ht
  |some e =>
   rw[he] at ht;cases ht;have jg:=(zab.mp he).1
   obtain⟨m2,q1,q2⟩:=nu i hR;rw[pS] at q1;cases q1;have hr:=q2 e he;obtain⟨S2,y2,k1,k2,k3,k4,k5,k6,_,_⟩:=HW (e:=e) B Mt D (by omega) nb nk hr (by simp;omega)
   have hb:=B.hb;unfold yP at hb;refine⟨[some (.kl (ns.map .int)),some (.ls X),some u.t,some (aB t0 t1 p0 p1),some (.ls (es.map bg.t)),some (.hd 0),some e.t,none,none,none,none,none,none,none],S2,.inl ?_,⟨_,rfl⟩,_,y2,by rw[zdZ,he];exact k2,k3,k4,by rw[j7 pS he,if_pos hr],k5,k6⟩
   generalize e.t=et at *
   simp?[fx,om,hb,k1])
 rw[zae] at B D pS;rw[zaF] at B pS;rw[hR] at pS;cases pS;have r6:(-4611686018427387904<=(6:Int)/\(6:Int)<4611686018427387904)=True:=eq_true (by decide)
 simp?[fx,om,r6];generalize hRs:ao (aP 10 _) _=RS
 have ajZ:∀(i:Nat) (S:Cs) (K:List bg) (kc:Nat) (y:Ly) (m:M) (v6 x8 x9 gF gz Tv YL:Option Tr),i<6->ia S 0 kc u (aB t0 t1 p0 p1) K (.hd y.a)->c9 S m y->Dr m d (22+K.length)->fW m0 K=some m->0∉fp y->kc∉fp y->K.length<=61+2 * i ->
   ∃(S':Cs) (K':List bg) (y':Ly) (m':M) (w10 w12 w13:Option Tr),RS [some (.kl (ns.map .int)),some (.ls X),some u.t,some (aB t0 t1 p0 p1),some (.ls (K.map bg.t)),some (.hd 0),v6,some (.int (i:Int)),x8,x9,gF,gz,Tv,YL] S = .nx [some (.kl (ns.map .int)),some (.ls X),some u.t,some (aB t0 t1 p0 p1),some (.ls (K'.map bg.t)),some (.hd 0),v6,some (.int (i:Int)),x8,x9,w10,gz,w12,w13] S' /\
    ia S' 0 kc u (aB t0 t1 p0 p1) K' (.hd y'.a)/\c9 S' m' y'/\Dr m' d (22+K'.length)/\fW m0 K'=some m'/\0∉fp y'/\kc∉fp y'/\K'.length<=60+2 * (i+1):=by
  intro i S K kc y m v6 x8 x9 gF gz Tv YL hi B Mt D hR nb nk hl;obtain⟨S3,y3,k3,F3⟩:∃S3 y3,pH [u.t,aB t0 t1 p0 p1,.ls (K.map bg.t)] S = .ok (.tp [.hd S.length,.br]) S3/\Fm S S3 m y3 d (22+K.length):=by
   rcases fre K (by omega) S with⟨m2,S3,y3,r,k,F⟩|⟨S3,ii,w,r,_⟩
   ·rw[hR] at r
    cases r;exact⟨S3,y3,k,F⟩
   ·have:=r.none
    rw[hR] at this;cases this
  have B3:=B.only F3.on (by simp) (by simp)
  have M3:c9 S3 m y:=Mt.only F3.on (by simp)
  obtain⟨S4,y4,k4,F4⟩:=mat S3 kc K _ m B3 hR (by omega)
  have B4:=B3.only F4.on (by simp) (by simp)
  have M4:c9 S4 m y:=M3.only F4.on (by simp)
  have N4:c9 S4 m y3:=F3.yK.only F4.on (by simp)
  have a4:=YI F4.yK F4.D;have b4:=YI N4 F3.D;rw[F4.a] at a4;rw[F3.a] at b4;have al:=aey F4.D true S4;obtain⟨e,ho⟩:=odd (3400+20 * (i:Int)) (by omega) (by omega) K (by omega) S4
  obtain⟨S5,y5,m5,k5,T5,_,_⟩:=Fd N4 F3.D.z (by omega) e
  rw[F3.a] at k5;have lb:=aK B.hb;have lk:=aK B.hk;have n3:∀j,j<S.length->j∉fp y3:=λj hj q=>by have:=F3.fp j q;omega
  have B5:=B4.only T5.on (n3 _ lb) (n3 _ lk)
  have M5:c9 S5 m y:=M4.only T5.on λj hj=>n3 j (Mt.lt j hj)
  have hb:=B.hb;have hb3:=B3.hb;have hb5:=B5.hb;unfold yP at hb hb3 hb5;have zK:(K.length+1<=sizeLine)=True:=aZ (by omega)
  have Qt:(K.map bg.t).length=K.length:=by simp
  rcases U3 B5 M5 D (by omega) nb nk (by omega) e with⟨S6,y6,r6,k6,B6,M6,D6,nb6,nk6⟩|⟨S6,w,r6,k6,o6⟩
  ·rw[r6,zbF] at k5
   refine⟨S6,K++[e],y6,gM m e,some (.hd S.length),some e.t,some (.str ""),?_,B6,M6,by rw[zag,zaR];exact D6,by rw[nq hR,if_pos r6],nb6,nk6,by simp;omega⟩
   rw[zaE,rO,zV];subst hRs;generalize Fc m=aT at *
   generalize K.map bg.t=L at *
   generalize e.t=eT at *
   simp?[fx,om,k3,hb3,k4,a4,b4,↓al,ho,k5,k6,zK,Qt]
  ·rw[r6,zbU] at k5
   have hw:=Fe r6;refine⟨S6,K,y,m,some (.hd S.length),some e.t,some (.str w),?_,B5.only o6 (by simp) (by simp),M5.only o6 (by simp),D,hR,nb,nk,by omega⟩
   subst hRs;generalize Fc m=aT at *
   generalize K.map bg.t=L at *
   generalize e.t=eT at *
   simp?[fx,om,k3,hb3,k4,a4,b4,↓al,ho,k5,k6,hw]
 clear hRs hZ odd mat
 generalize hZ:fV _ _ _ _ _ _=Z
 obtain⟨τ,S7,⟨v6,x7,x8,x9,gF,gz,Tv,YL,K,kc,y,m,rfl,B7,_,_,_,_,_,lK7⟩,rfl⟩:=gQ hZ (λi τ S'=>∃v6 x7 x8 x9 gF gz Tv YL K kc y m,τ=[some (.kl (ns.map .int)),some (.ls X),some u.t,some (aB t0 t1 p0 p1),some (.ls (K.map bg.t)),some (.hd 0),v6,x7,x8,x9,gF,gz,Tv,YL]/\ia S' 0 kc u (aB t0 t1 p0 p1) K (.hd y.a)/\c9 S' m y/\Dr m d (22+K.length)/\fW m0 K=some m/\0∉fp y/\kc∉fp y/\K.length<=60+2 * i) (λ_ _ _ _=>trivial) ⟨_,_,_,_,_,_,_,_,es,1,y,mN,rfl,B,Mt,D,hR,nb,nk,by omega⟩ (by
  rintro i t τ S' ht ⟨v6,x7,x8,x9,gF,gz,Tv,YL,K,kc,y,m,rfl,B,Mt,D,hR,nb,nk,lK⟩
  obtain⟨jg,rfl⟩:=pe ht;have jg:i<6:=jg
  have hb:=B.hb;unfold yP at hb;obtain⟨fs,lf,P⟩:=tur S' kc K _ B (3000+20 * (i:Int)) (by omega) (by omega) (by omega)
  rcases P with⟨m1,S1,kc1,y1,r1,k1,B1,lk1,M1,D1,fk1,o1⟩|⟨S1,ii,w,aG,k1,o1⟩
  ·obtain⟨S2,y2,k2,F2⟩:∃S2 y2,pH [u.t,aB t0 t1 p0 p1,.ls (fs.map bg.t)] S1 = .ok (.tp [.hd S1.length,.br]) S2/\Fm S1 S2 m1 y2 d (22+fs.length):=by
    rcases fre fs (by omega) S1 with⟨m2,S3,y3,r,k,F⟩|⟨S3,ii,w,r,_⟩
    ·rw[r1] at r
     cases r;exact⟨S3,y3,k,F⟩
    ·have:=r.none
     rw[r1] at this;cases this
   have B2:=B1.only F2.on (by simp) (by simp)
   have M2:c9 S2 m1 y1:=M1.only F2.on (by simp)
   have ke:=Ax B2;have g:=vU true fs S2;obtain⟨S3,K',y',m',w10,w12,w13,kh,c1,c2,c3,c4,c5,c6,c7⟩:=ajZ i S2 fs kc1 y1 m1 v6 (some (.ls (fs.map bg.t))) (some .br) (some (.hd S1.length)) (some .br) Tv YL jg B2 M2 D1 r1 (λq=>by have:=fk1 _ q;omega) (λq=>by have:=fk1 _ q;omega) (by omega)
   have U0:=B2.hb;unfold yP at U0;refine⟨[some (.kl (ns.map .int)),some (.ls X),some u.t,some (aB t0 t1 p0 p1),some (.ls (K'.map bg.t)),some (.hd 0),v6,some (.int (i:Int)),some (.ls (fs.map bg.t)),some .br,w10,some .br,w12,w13],S3,.inl ?_,_,_,_,_,_,_,_,_,K',kc1,y',m',rfl,c1,c2,c3,c4,c5,c6,c7⟩
   generalize K.map bg.t=L at *
   generalize fs.map bg.t=LF at *
   generalize K'.map bg.t=LK at *
   simp?[fx,om,hb,k1,k2,U0,ke,↓g,kh]
  ·obtain⟨S2,k2,o2⟩:∃S2,pH [u.t,aB t0 t1 p0 p1,.ls (fs.map bg.t)] S1 = .ok (.tp [.hd S1.length,.tp [.int (ii:Int),.str w]]) S2/\aR [] S1 S2:=by
    rcases fre fs (by omega) S1 with⟨m2,S3,y3,r,k,F⟩|⟨S3,jj,v,r,k,o⟩
    ·have:=aG.none
     rw[r] at this;cases this
    ·obtain⟨rfl,rfl⟩:=r.HZ aG
     exact⟨S3,k,o⟩
   have o12:=o1.trans o2;have B2:=B.only o12 (by simp) (by simp)
   have M2:c9 S2 m y:=Mt.only o12 (by simp)
   have ke:=Ax B2;have g:=vU true K S2;have kp:=aeN (ii:Int) w S2
   have gt:cR true (.tp [.int (ii:Int),.str w]) (.tp [.int (ii:Int),.str w]) S2 = .ok (.bl false) S2:=aet rfl
   obtain⟨S3,K',y',m',w10,w12,w13,kh,c1,c2,c3,c4,c5,c6,c7⟩:=ajZ i S2 K kc y m v6 (some (.ls (fs.map bg.t))) (some (.tp [.int (ii:Int),.str w])) (some (.hd S1.length)) (some (.tp [.int (ii:Int),.str w])) Tv YL jg B2 M2 D hR nb nk (by omega)
   have U0:=B2.hb;unfold yP at U0;refine⟨[some (.kl (ns.map .int)),some (.ls X),some u.t,some (aB t0 t1 p0 p1),some (.ls (K'.map bg.t)),some (.hd 0),v6,some (.int (i:Int)),some (.ls (fs.map bg.t)),some (.tp [.int (ii:Int),.str w]),w10,some (.tp [.int (ii:Int),.str w]),w12,w13],S3,.inl ?_,_,_,_,_,_,_,_,_,K',kc,y',m',rfl,c1,c2,c3,c4,c5,c6,c7⟩
   generalize K.map bg.t=L at *
   generalize fs.map bg.t=LF at *
   generalize K'.map bg.t=LK at *
   simp?[fx,om,hb,k1,k2,kp,U0,ke,↓gt,↓g,kh])
 have hb:=B7.hb;have ke:=Ax B7;have g:=vU false K S7;unfold yP at hb;generalize K.map bg.t=L at *
 exact⟨S7,by simp?[fx,om,hb,ke,↓g]⟩
theorem zq1 {α:Type _}{P:List α -> Prop}(h:∀a,P [a]):∀us:List α,us.length=1->P us
 |[a],_=>h a
theorem zq2 {α:Type _}{P:List α -> Prop}(h:∀a b,P [a,b]):∀us:List α,us.length=2->P us
 |[a,b],_=>h a b
theorem zq3 {α:Type _}{P:List α -> Prop}(h:∀a b c,P [a,b,c]):∀us:List α,us.length=3->P us
 |[a,b,c],_=>h a b c
theorem zq4 {α:Type _}{P:List α -> Prop}(h:∀a b c d,P [a,b,c,d]):∀us:List α,us.length=4->P us
 |[a,b,c,d],_=>h a b c d
theorem zq5 {α:Type _}{P:List α -> Prop}(h:∀a b c d e,P [a,b,c,d,e]):∀us:List α,us.length=5->P us
 |[a,b,c,d,e],_=>h a b c d e
section
variable {K:W.Frag}{h:Heap}{mg:Str->Option Value}{C:Addr}{x bW:Str}{st:Stmt}{ps:List Str}{f:Addr}{oc:Value}{od an:Option Addr}{DH:Array (Option Value)}{kV nK pm eZ ct:Value}(X:K.In h)(G:h.Ns mainGlobals mg)
include X G in
theorem dmk (hb:∀(kV nK pm:Value) (an:Option Addr) (eZ ct:Value) (us:List Value),us.length=ps.length->bindArgs (W.fnOf x x (d_ st) (cS st) (aj st) .none kV nK pm an eZ ct) ⟨us,[]⟩=pure (ps.zip us))(a:W.nsIn K mainGlobals x=some (some (.ref f)))(l:K.lookup f=some ⟨oc,od,.func (W.fnOf x x (d_ st) (cS st) (aj st) .none kV nK pm an eZ ct),DH⟩)(c:W.codeIn K eZ x=true)(k:W.keepIn K (.ref f)=true):n_ K mg x st ps f (W.fnOf x x (d_ st) (cS st) (aj st) .none kV nK pm an eZ ct):=⟨zk l c k,W.mg_of X G a,(zk l c k).qL hb⟩
theorem mmk (hb:∀(kV nK pm:Value) (an:Option Addr) (eZ ct:Value) (us:List Value),us.length=ps.length->bindArgs (W.fnOf x bW (d_ st) (cS st) (aj st) .none kV nK pm an eZ ct) ⟨us,[]⟩=pure (ps.zip us))(a:W.findIn K (.ref C) x=some (some (.ref f)))(i:W.isFn K (.ref f)=true)(l:K.lookup f=some ⟨oc,od,.func (W.fnOf x bW (d_ st) (cS st) (aj st) .none kV nK pm an eZ ct),DH⟩)(c:W.codeIn K eZ bW=true)(k:W.keepIn K (.ref f)=true):iI K C x bW st ps f (W.fnOf x bW (d_ st) (cS st) (aj st) .none kV nK pm an eZ ct):=⟨zk l c k,⟨a,i,k⟩,(zk l c k).qL hb⟩
end
theorem anQ {l:W.OpenLaw}{w:World}{K:W.Frag}{h:Heap}{mg:Str->Option Value}{fa:Addr}(X:K.In h)(G:h.Ns mainGlobals mg)(hfa:mg "law"=some (.ref fa)){BA BB BC BD BE BF t6 xB xC xD xE xF xG xH xJ xK xM xN BG BH xO xP xQ BI xR xS xT xU BJ BK BL BN BO BP BQ xV Et xW BR BS xX xY xZ x_ ya yb yc yd ye BU BV yf yg yh yi yj yk ym Jo yo BW Eu BX Jp Jq Jr Js Jt BY BZ B8 Ju yq B9 Jv B_:Addr}{t7 t8 t9 t_ ua uc ud ue uf ug uh um uo uq ur uv uw ux uy uz uA uB uC uD uE uF uG uH uI uJ uK uL uM uN uO uP Ca uQ uR uS uU uV uW uX uY uZ u5 u6 u9 u_ vc vd ve vf vg vh vj vm Cb qw vn Cc vo Cd Cf Cg Ci Cj vp vq vt Ck vz vA Cm nR:FuncData}{aX bw eB:Addr}{jt zW iJ iK mZ iM ju kU m6 GD kW iN jv m8:Tok}(TF:TxF K mg (AdF.mk BA BB BC BD BE BF t6 xB xC xD xE xF xG xH xJ xK xM xN BG BH xO xP xQ BI xR xS xT xU BJ BK BL BN BO BP BQ xV Et xW BR BS xX xY xZ x_ ya yb yc yd ye BU BV yf yg yh yi yj yk ym Jo yo BW Eu BX Jp Jq Jr Js Jt BY BZ B8 Ju yq B9 Jv B_ t7 t8 t9 t_ ua uc ud ue uf ug uh um uo uq ur uv uw ux uy uz uA uB uC uD uE uF uG uH uI uJ uK uL uM uN uO uP Ca uQ uR uS uU uV uW uX uY uZ u5 u6 u9 u_ vc vd ve vf vg vh vj vm Cb qw vn Cc vo Cd Cf Cg Ci Cj vp vq vt Ck vz vA Cm nR aX bw eB jt zW iJ iK mZ iM ju kU m6 GD kW iN jv m8))
  {bz:Addr} {cdB:ClassData} {nmB qB:Str} {NB:Addr} {bsB anR:List Value} {SN:Bool} {snB:List Str} {abB:Bool} {anS:Option Bool} {ddB:Option Addr} {kaB kbB kcB kdB keB:Option Value} {anT:String} {JN Qh:Str} {Qi bK bB:Addr} {JO Fi:List Value} {JP:List Str} {JQ:Bool} {Fj:Option Bool} {JR:Option Addr} {JS JT JU JV JW:Option Value} {Fl k_:Option Addr} {Fo:Array (Option Value)} {Fp lg lq ly je lz:Value} {mR:Addr} {Fq:Value} {Ft:Option Addr} {JX:Nat} {Fv:Array (Option Value)} {iR:Tok}
  (anU:W.nsIn K mainGlobals "BookError"=some (some (.ref bz)))
  (anV:W.clsIn K bz=some cdB)
  (anW:W.typeIn K (.ref bz)=some (.type "type"))
  (anY:W.specialIn K (.ref bz) "__getattribute__"=some (some (.builtin "type.__getattribute__")))
  (anZ:W.readsIn K bz (.type "type")=true)
  (an0:W.findCls K (.ref bz) (.type "type") "__init__"=some (.val (.builtin "ValueError.__init__")))
  (an1:W.tailIn K rT (.ref bz::rT)=true)
  (an2:K.lookup bz=some (excClassObj nmB qB bz NB bsB rT SN snB anR abB anS ddB kaB kbB kcB kdB keB anT))
  (xgc:W.specialIn K (.builtin "object.__class__") "__get__"=some (some (.builtin "getset_descriptor.__get__")))
  (xtc:W.takesIn K (.builtin "object.__class__")=some true)
  (yR:W.nsIn K mainGlobals "NotLet"=some (some (.ref bK)))
  (JY:K.lookup bK=some (excClassObj JN Qh bK Qi JO (.ref bz::rT) true JP Fi JQ Fj JR JS JT JU JV JW "ValueError.__new__"))
  (JZ:W.findIn K (.ref bK) "__init__"=some (some (.ref bB)))
  (J0:W.typeIn K (.ref bB)=some (.type "function"))
  (J1:W.keepIn K (.ref bK)=true)
  (J2:W.findIn K (.ref bK) "__setattr__"=some (some (.builtin "object.__setattr__")))
  (J3:W.findIn K (.ref bK) "__getattribute__"=some (some (.builtin "BaseException.__getattribute__")))
  (J4:W.findIn K (.ref bK) "__getattr__"=some none)
  (J5:W.findIn K (.ref bK) "__class__"=some (some (.builtin "object.__class__")))
  (vV:W.findIn K (.ref bK) "rule"=some none)
  (qJ:W.findIn K (.ref bK) "number"=some none)
  (J6:K.lookup bB=some ⟨Fp,Fl,.func (W.fnOf "__init__" "NotLet.__init__" (d_ dH) (cS dH) (aj dH) (.ref mR) lg lq ly k_ je lz),Fo⟩)
  (J7:W.codeIn K je "NotLet.__init__"=true)
  (yS:K.lookup mR=some ⟨Fq,Ft,.seq #[.int 0 iR] JX,Fv⟩)
  (J8:bK≠bz)
  : ∃fd:FuncData,(∀(s:Shared) (v:Value),BindsTo s fd ⟨[v],[]⟩ [("_law_script",v)])/\∀base:Heap,K.In base->base.Ns mainGlobals mg->aN l.prog w K mg base dJ 13 fa fd ["_law_script"] (Gs K):=by
 have e:=hfa.symm.trans TF.NU.m;cases e;have C8:oK K bK bB (.ref bz::rT):=⟨⟨_,_,_,_,_,_,_,_,_,_,_,_,_,_,JY⟩,an1,JZ,J0,J1,J2,J3,J4,J5,⟨_,rfl⟩⟩
 have J9:d8 K (W.fnOf "__init__" "NotLet.__init__" (d_ dH) (cS dH) (aj dH) (.ref mR) lg lq ly k_ je lz) ["self","words","rule","number"] []:=λs us X' hl=>by
  rw[zaw] at hl ⊢
  match us,hl with|[_,_,_,_],_=>exact W.binds_K X' rfl yS rfl rfl rfl
 have Fw:d8 K (W.fnOf "__init__" "NotLet.__init__" (d_ dH) (cS dH) (aj dH) (.ref mR) lg lq ly k_ je lz) ["self","words","rule","number"] [.int 0 iR]:=λs us X' hl=>by
  have Ke:us.length=3:=by simpa using hl
  match us,Ke with|[_,_,_],_=>exact W.binds_K X' rfl yS rfl rfl rfl
 have an3:∀p∈([("NotLet",bK,bB)]:List (Str×Addr×Addr)),mg p.1=some (.ref p.2.1)/\oK K p.2.1 p.2.2 (.ref bz::rT):=by
  intro p hp;simp only[zan,zaL,or_false] at hp;rcases hp with rfl
  ·exact⟨W.mg_of X G yR,C8⟩
 let a:Ad:={ toAdF:=AdF.mk BA BB BC BD BE BF t6 xB xC xD xE xF xG xH xJ xK xM xN BG BH xO xP xQ BI xR xS xT xU BJ BK BL BN BO BP BQ xV Et xW BR BS xX xY xZ x_ ya yb yc yd ye BU BV yf yg yh yi yj yk ym Jo yo BW Eu BX Jp Jq Jr Js Jt BY BZ B8 Ju yq B9 Jv B_ t7 t8 t9 t_ ua uc ud ue uf ug uh um uo uq ur uv uw ux uy uz uA uB uC uD uE uF uG uH uI uJ uK uL uM uN uO uP Ca uQ uR uS uU uV uW uX uY uZ u5 u6 u9 u_ vc vd ve vf vg vh vj vm Cb qw vn Cc vo Cd Cf Cg Ci Cj vp vq vt Ck vz vA Cm nR aX bw eB jt zW iJ iK mZ iM ju kU m6 GD kW iN jv m8,bz:=bz,bK:=bK,bB:=bB,eE:=W.fnOf "__init__" "NotLet.__init__" (d_ dH) (cS dH) (aj dH) (.ref mR) lg lq ly k_ je lz,iR:=iR}
 have T:Txt K mg a:={
  toTxF:=TF
  Er:=⟨W.mg_of X G anU,⟨anY,anZ,an0⟩,by show (W.clsIn K bz).isSome=true;rw[anV];rfl,anW,⟨_,_,_,_,_,_,_,_,_,_,_,_,_,_,_,_,an2⟩,⟨xgc,xtc⟩,an3⟩
  eX:=⟨C8,W.mg_of X G yR,J9,⟨_,_,_,_,_,_,_,_,_,_,_,rfl,J6,J7⟩⟩
  yw:=Fw
  i8:=vV
  jT:=qJ
  Jz:=J8
 }
 obtain⟨_,_,_,_,_,_,_,_,_,ef,_⟩:=TF.NU.F.ex;exact⟨nR,λs v=>by rw[show nR=_ from ef];exact .of_eq rfl,λbase _ _=>aa6 (acU T) law⟩
theorem walk {l:W.OpenLaw}{q:Program}{wM:List Str}{XP:(Str->Option Value)->Heap->Prop}{YP:World->Heap->Prop}{d:DefRec}{K:Params->W.Frag}(hn:l.most=some 63)(hdf:d.params.defaults=[])
  (hY:∀(w:World) (h:Heap),YP w h->(K w.params).In h)
  (F:∀(w:World) (mg:Str->Option Value) (fa:Addr) (h:Heap),(K w.params).In h->h.Ns mainGlobals mg->mg d.name=some (.ref fa) ->
   ∃fd:FuncData,(∀(s:Shared) (u:Value),BindsTo s fd ⟨[u],[]⟩ [("_law_script",u)])/\∀base:Heap,(K w.params).In base->base.Ns mainGlobals mg->aN l.prog w (K w.params) mg base dJ 13 fa fd ["_law_script"] (Gs (K w.params))):
  W.WalkO q wM XP YP l.row.toRowW d [] (λf vs=>PySem.call f vs):=
 L2.Rk (n:=63) (k:=13) (x:= "_law_script") (CX:=λ_=>dJ) (sp:=λw=>Gs (K w.params)) hn (by decide) hdf ⟨rfl,by decide,by decide⟩ hY F (λ_ _ a ns hl _ hS=>⟨a,ns,rfl,hS,hl,λ_=>rfl⟩) λ_ _ _ _ _ z=>z
end My
structure PySem.W.Fast:Prop where(tw522274171287539787 tw11725089801164556219 tw17407635646258575857 tw11665926758394197832 tw889635614637546774 tw13821648875709553576 tw6341370343631421524 tw10477607172790106489 tw4039831315906469532 tw9345807261690886022 tw3773109587510664002 tw11771220191922172530 tw7683889854102473328 tw1298525996487933563 tw9447507323870638832 tw14451659940623869532 tw931094293961112367 tw17353934055041645747 tw16737039502691043303 tw9173522291635904486 tw11848577812504187052 tw2020894212559744816 tw1273323382988292597 tw12168106709699305564 tw10430439138028049766 tw17107584677332994046 tw5163360323985333627 tw11059417851578953968 tw10353732314887427484 tw6802730812431990564 tw4766133665071638595 tw9632639328107412506 tw14794438868753990138 tw3514480573044903665 tw1803856240064728634 tw18284561505555150551 tw4358742607889111802 tw5144975224880871051 tw12802253142468889439 tw7944467836414443813 tw3308484126330960308 tw12224077360020631230 tw8091982970084449102 tw1028869496171865009 tw14359767527907457459 tw10690022911189764046 tw618903750598935812 tw1274320721380360616 tw9669260480424824296 tw16226685184194247980 tw13456414386213641645 tw16691357926299588753 tw6877807402728316838 tw9201531086368387133 tw4691959837130767404 tw15504593838591844078 tw10742193381498119979 tw2328431776909577333 tw4579405101504648269 tw16090176969764192811 tw4793410117303741953 tw4389560621892159705 tw11088339349056893363 tw4409164061983145644 tw1336530839020543894 tw5078730524742540816 tw459018831809660274 tw8826905479019336116 tw8248621064997986040 tw9008325711676764184 tw10471165874643082651 tw5943741598234804636 tw9546214482495270322 tw8475905371639504920 tw9862485419595078672 tw12855886079346604505 tw13019942616126853286 tw2378411697116423551 tw12018260828768956595 tw10209089842717599378 tw4381104919692423145 tw7512428604743676699 tw4852793145907020928 tw17208360306633686874 tw11986053141018629174 tw14508084474346621524 tw10102810935681537590 tw6585578655836075909 tw204707285995495089 tw1498281874662448686 tw13925330276253201360 tw18294261904132676699 tw5068087460738566928 tw2640179707067009272 tw5354719445075305817 tw17212630585997810757 tw6769364670799880507 tw15952644700240796340 tw17530706074075041374 tw3559295603416518947 tw1978239629158654870 tw15798544030875502985 tw10602061735197805054 tw15282465330845014790 tw15169373808991039240 tw1124782374616713843 tw14666049037516839503 tw18366238912613093895 tw8298002476088694049 tw10416017058526522775 tw14852844530718569182 tw15640453773957102854 tw17291987172813787959 tw15540814069940895163 tw10074386016937935745 tw15823344220307734557 tw11548542469728682803 tw10704053408646866125 tw9630859131161022725 tw10299718006499263494 tw3627297071022889929 tw7008400855945060335 tw18160271488088472874 tw12022618968912741037 tw1511942885427025127 tw4665306832113435408 tw1894809424653927430 tw14548980050250464912 tw16618357960758930298 tw14569617213186964278 tw14541572926099849081 tw5939564449959881136 tw10783512522377430478 tw13291514602884387448 tw15386377196336932324 tw15195933103661096676 tw17408358806028547425 tw4599279424164249890 tw1733812272868357075 tw14792715912629033099 tw6982919956837604635 tw17841386581645905920 tw3590310273202581906 tw7888848919130208872 tw656083408533659744 tw14771044861659400959 tw1124369202744973538 tw6969693456265813550 tw6608762088759724354 tw14399713873234588152 tw4748129787222670644 tw4337556295938666534 tw15188619965974649004 tw7958681061928803388 tw6573730999986819319 tw15989867841741203865 tw250069728334501575 tw8312411090715966539 tw5838906960556178900 tw2244561081578097924 tw18055820744658495292 tw11899866786009898622 tw11782771331908685663 tw14203067390991656883 tw5206915574826846989 tw9598435849947255526 tw13134331865352315853 tw18442831025083105710 tw17865085473670176818 tw7805226046947613243 tw13352469643501343650 tw9579465839292541024 tw8092335842813838845 tw13705540198663433663 tw16957058692248362832 tw12524672589552177810 tw2776470598000665712 tw3014460717467482445 tw12748511710516486162 tw2697714973351246604 tw18069194429413790185 tw15224053170997224239 tw62665782754205082 tw9670742272988182890 tw4573480622304857550 tw1564096009775854511 tw4545861667405436454 tw3141113691175632090 tw3169813864496082113 tw12186244932786255834 tw16848770886317112307 tw2619028853951613624 tw9822598595874110613 tw11724537820927436986 tw4367283041290231420 tw2682553439514052680 tw15024911957503410939 tw8028737780887710369 tw11878165154704999758 tw6507560042760801303 tw15513406555582337579 tw5996115876383351935 tw13180435168083766943 tw6220633583496502839 tw151817573177032762 tw17544821738514788496 tw2843104969309632864 tw3540623650827080111 tw7266031576247542457 tw9811565832320759615 tw6566306164946703085 tw12766716420174694947 tw3238875599754798187 tw1474930153186820014 tw16440252281207307554 tw2866253355336671451 tw12742304475516616657 tw16586722197827473755 tw3187612797911663693 tw797588035901671118 tw15572030704004195640 tw9911325037091240163 tw12399065163081223387 tw12807764915165033225 tw17326820401341593455 tw6029039915716569367 tw6556249463731620688 tw6859802971427452775 tw13656025230374687738 tw10622110437157812502 tw16661772700701792457 tw5872184734286972451 tw1585695560851346470 tw6690054747730076757 tw2528962469232686971 tw12652782290499161076 tw13138792604018644689 tw16418785001214230650 tw5248421217810306012 tw7503586826492554598 tw3608944451071632573 tw11449305010454848368 tw2447603069353296893 tw5029076256105556014 tw15356568248544597639 tw14471571471573913463 tw2060536804104100385 tw17327141390947597586 tw14070675727020482035 tw3293605131453423911 tw4945857583643779102 tw597084106155227713 tw3865223861526657082 tw7066465633500410898 tw11901171087211217109 tw4272433034356276093 tw3568959781422412508 tw10788982627532583317 tw17855340835239286539 tw11481604831461456572 tw17571942266316931207 tw13176033291867816406 tw13558239014393639498 tw10208135362426708113 tw17007896325874124518 tw15007475753845473496 tw7576794703629899608 tw17385076577569049573 tw15895825499223567084 tw9824901137070365350 tw7085916579961568134 tw9959022119041779227 tw17600165187798631087 tw17144534629314973597 tw8416973361152014629 tw9964947116666041645 tw11711708587503504173 tw8256734314455361356 tw18029740854782036921 tw8600352773084597310 tw7100467812152436455 tw10532818739422247149 tw15959425924950877048 tw10616662215151875085 tw17656911912261808713 tw13234571654382464156 tw232234332280502784 tw2815353627294099398 tw2216496244461051216 tw2793434199465965724 tw11187926087084749963 tw16460246790442552440 tw15205820183161071478 tw5912280235230001107 tw4096057371336940776 tw402409314954026405 tw4026639683273318977 tw8939758009216341963 tw9533251515494222889 tw3251172617499896619 tw12671110607654053004 tw11403956517766783069 tw16182583662854961362 tw5348626328354766989 tw2022330685558162998 tw13902389585463783341 tw14042558397432486225 tw13438193192778935124 tw13003558473384916452 tw9322894736538738824 tw359983617340338505 tw7724016185505239015 tw9818624161847321904 tw15220013247063173473 tw12232740813499601734 tw2623369499276216362 tw1649832805762625401 tw13324466119999609894 tw12814380712722884278 tw1307427895597571391 tw16214031223510563997 tw16780218383569013283 tw11117596843240075534 tw17142158006580680521 tw13089478106267698580 tw3430091945008335592 tw2673615643799962622 tw9033819364811279029 tw4310205726957623090 tw9744415645851794730 tw12017853232565207941 tw17596656739926949070 tw7401220260436720824 tw6748436888227228591 tw12701306830168097949 tw14716439608386536319 tw2450419462338134529 tw7864748901281336526 tw16402147202355761117 tw8460565938148923356 tw18082350571948337800 tw3620138279247271180 tw169741907917741008 tw2423822344844102904 tw13544147549441538930 tw13736737898933883751 tw9845053413229068702 tw15869977288080339693 tw13197015959502095769 tw13194781460401590561 tw14207577340212484928 tw18089119028675094067 tw925290210368954622 tw4885672807425823199 tw4452821429260354928 tw17244160439970991846 tw6341547886493240370 tw13241767087637111439 tw15488709870640165128 tw17824944744590558487 tw17709647076660502470 tw6227661195531566299 tw15249281694305336384 tw6966424032464227172 tw5379784746053811599 tw5997063175561062923 tw10032925119015297535 tw1262952420515290570 tw5594490632447431824 tw16988986325605725607 tw12496934815309901741 tw1603516228945446468 tw1819238327777565521 tw13811997551786953304 tw4717541148262109980 tw17620030581983722551 tw7763721526945504769 tw7254658547654968360 tw16806072800366698212 tw6771790475392756766 tw7176304054315770820 tw2904521456615526192 tw12473381417529891436 tw16001351225960865321 tw16215637683433494004 tw16235089414535279177 tw9642652725946604335 tw5982723485684025991 tw9176397785296988980 tw13206192767417516203 tw7851368212792986231 tw4019728014718564813 tw10437708580786283948 tw12361370874475758192 tw7740216928342562165 tw11170725120025111498 tw8470525692161467424 tw130804825800972036 tw13457907721403128007 tw3664075038237995283 tw8466034364050346615 tw13533293515536576079 tw3879025405208552582 tw14349540246985732951 tw9892035491245891236 tw11921306738292328966 tw17257051551165667208 tw13568081924660804132 tw747109359465896726 tw11492199597461048381 tw14168133488030422064 tw15472918221891997073 tw7388306608843238032 tw11549734352936553606 tw15057445158079009209 tw18210716882923019808 tw2127505147218115291 tw10238850912588655842 tw2442274298341712260 tw16927945189518602109 tw762267225535877054 tw8227726667279662740 tw2298833269799746999 tw6459593953595735466 tw11748809979419622039 tw3788118490908610233 tw14768486914173461485 tw7924613289219450067 tw11010405859772636081 tw2977717498284083134 tw14585166613650110591 tw6406236537616920529 tw16141471011884180228 tw985209932406068247 tw16105194409293337796 tw17842126881299674424 tw2555054538393676502 tw12224222855755628740 tw4192834327807831544 tw414490835438598144 tw2214567738690988048 tw18047571751470132916 tw4876877254841923954 tw6651608449211227198 tw17721071703113166045 tw8497820066316258920 tw6038036947115646595 tw13138540687494277151 tw17880932653561614266 tw15157962939905592380 tw2684318350711466999 tw16207369247016142315 tw9930331133375154290 tw11132032609226174308 tw9674855165236389409 tw17346394132685904236 tw12694860196886244010 tw13075304102153824225 tw16015564709706324824 tw13178718996863306207 tw8296440807068951769 tw428656144060058395 tw11369453829271026871 tw11713248737267690816 tw17039203470828914222 tw4369348531013475846 tw14141780213503657335 tw4146104524060905379 tw14216709321221347546 tw4986570549830490665 tw8537069038184491929 tw16280234860123295125 tw17195081913185132106 tw5485457582024933802 tw15750827855068770437 tw4294537724488407593 tw12372898660430307982 tw6564885293327679698 tw11482182009664387522 tw12873922431810853788 tw5522130432448495429 tw3641695267302805384 tw2134100457381732246 tw15715882220706507417 tw9308102308229449536 tw12072177128774159771 tw10607328644499443834 tw6133977252681875035 tw4165109595545526310 tw2558742033293029417 tw7969510643785088584 tw6999474947279339830 tw16464265445168346556 tw4845808137517797499 tw12831021994249337139 tw7968823425250193190 tw7401666266747459371 tw5609503335453684325 tw2635088601643228606 tw5146512764907636780 tw5828282356879346694 tw7102793482174382689 tw6654872595393273265 tw4398071599112332884 tw6712562379035231203 tw11724259218099942140 tw4592200620397007082 tw13034806331664309597:True)
open PySem PySem.W PyProof.Rows
set_option maxRecDepth 100000 in
set_option maxHeartbeats 0 in
theorem PySem.Challenge.cw_inningsbook_k51_whole_put_right_holds : PySem.Challenge.rw_inningsbook_k51_whole_put_right.Holds := by
  w_on; o_law; k_head; (case hw => w_witness2)
  k_fill
  refine My.walk (l := PySem.Challenge.rw_inningsbook_k51_whole_put_right) rfl rfl (fun w h Y => PySem.W.kIn_of Y) ?F
  case F =>
    intro w mg fa h KX G hmg
    refine' My.anQ KX G hmg ⟨PySem.W.mg_none_of KX G ?_, PySem.W.mg_none_of KX G ?_, PySem.W.mg_none_of KX G ?_, PySem.W.mg_none_of KX G ?_, PySem.W.mg_none_of KX G ?_, PySem.W.mg_none_of KX G ?_, PySem.W.mg_none_of KX G ?_, PySem.W.mg_none_of KX G ?_, PySem.W.mg_none_of KX G ?_, PySem.W.mg_none_of KX G ?_, PySem.W.mg_none_of KX G ?_, PySem.W.mg_none_of KX G ?_, PySem.W.mg_none_of KX G ?_, PySem.W.mg_of KX G ?_, PySem.W.mg_of KX G ?_, PySem.W.mg_of KX G ?_, PySem.W.mg_of KX G ?_, PySem.W.mg_of KX G ?_, PySem.W.mg_of KX G ?_, PySem.W.mg_of KX G ?_, PySem.W.mg_of KX G ?_, PySem.W.mg_of KX G ?_, PySem.W.mg_of KX G ?_, PySem.W.mg_of KX G ?_, PySem.W.mg_of KX G ?_, PySem.W.mg_of KX G ?_, PySem.W.mg_of KX G ?_, My.dmk KX G (fun _ _ _ _ _ _ => My.zq2 (fun _ _ => rfl)) ?_ ?_ ?_ ?_, My.dmk KX G (fun _ _ _ _ _ _ => My.zq3 (fun _ _ _ => rfl)) ?_ ?_ ?_ ?_, My.dmk KX G (fun _ _ _ _ _ _ => My.zq3 (fun _ _ _ => rfl)) ?_ ?_ ?_ ?_, My.dmk KX G (fun _ _ _ _ _ _ => My.zq1 (fun _ => rfl)) ?_ ?_ ?_ ?_, My.dmk KX G (fun _ _ _ _ _ _ => My.zq2 (fun _ _ => rfl)) ?_ ?_ ?_ ?_, My.dmk KX G (fun _ _ _ _ _ _ => My.zq2 (fun _ _ => rfl)) ?_ ?_ ?_ ?_, My.mmk (fun _ _ _ _ _ _ => My.zq3 (fun _ _ _ => rfl)) ?_ ?_ ?_ ?_ ?_, My.mmk (fun _ _ _ _ _ _ => My.zq1 (fun _ => rfl)) ?_ ?_ ?_ ?_ ?_, My.mmk (fun _ _ _ _ _ _ => My.zq1 (fun _ => rfl)) ?_ ?_ ?_ ?_ ?_, My.mmk (fun _ _ _ _ _ _ => My.zq2 (fun _ _ => rfl)) ?_ ?_ ?_ ?_ ?_, My.mmk (fun _ _ _ _ _ _ => My.zq2 (fun _ _ => rfl)) ?_ ?_ ?_ ?_ ?_, My.mmk (fun _ _ _ _ _ _ => My.zq1 (fun _ => rfl)) ?_ ?_ ?_ ?_ ?_, My.mmk (fun _ _ _ _ _ _ => My.zq1 (fun _ => rfl)) ?_ ?_ ?_ ?_ ?_, My.mmk (fun _ _ _ _ _ _ => My.zq1 (fun _ => rfl)) ?_ ?_ ?_ ?_ ?_, My.mmk (fun _ _ _ _ _ _ => My.zq1 (fun _ => rfl)) ?_ ?_ ?_ ?_ ?_, My.mmk (fun _ _ _ _ _ _ => My.zq1 (fun _ => rfl)) ?_ ?_ ?_ ?_ ?_, My.mmk (fun _ _ _ _ _ _ => My.zq1 (fun _ => rfl)) ?_ ?_ ?_ ?_ ?_, My.mmk (fun _ _ _ _ _ _ => My.zq1 (fun _ => rfl)) ?_ ?_ ?_ ?_ ?_, My.dmk KX G (fun _ _ _ _ _ _ => My.zq3 (fun _ _ _ => rfl)) ?_ ?_ ?_ ?_, My.dmk KX G (fun _ _ _ _ _ _ => My.zq4 (fun _ _ _ _ => rfl)) ?_ ?_ ?_ ?_, My.mmk (fun _ _ _ _ _ _ => My.zq2 (fun _ _ => rfl)) ?_ ?_ ?_ ?_ ?_, My.mmk (fun _ _ _ _ _ _ => My.zq2 (fun _ _ => rfl)) ?_ ?_ ?_ ?_ ?_, My.mmk (fun _ _ _ _ _ _ => My.zq2 (fun _ _ => rfl)) ?_ ?_ ?_ ?_ ?_, My.dmk KX G (fun _ _ _ _ _ _ => My.zq2 (fun _ _ => rfl)) ?_ ?_ ?_ ?_, My.mmk (fun _ _ _ _ _ _ => My.zq3 (fun _ _ _ => rfl)) ?_ ?_ ?_ ?_ ?_, My.mmk (fun _ _ _ _ _ _ => My.zq1 (fun _ => rfl)) ?_ ?_ ?_ ?_ ?_, My.mmk (fun _ _ _ _ _ _ => My.zq1 (fun _ => rfl)) ?_ ?_ ?_ ?_ ?_, My.mmk (fun _ _ _ _ _ _ => My.zq1 (fun _ => rfl)) ?_ ?_ ?_ ?_ ?_, My.dmk KX G (fun _ _ _ _ _ _ => My.zq2 (fun _ _ => rfl)) ?_ ?_ ?_ ?_, My.dmk KX G (fun _ _ _ _ _ _ => My.zq4 (fun _ _ _ _ => rfl)) ?_ ?_ ?_ ?_, My.dmk KX G (fun _ _ _ _ _ _ => My.zq1 (fun _ => rfl)) ?_ ?_ ?_ ?_, My.dmk KX G (fun _ _ _ _ _ _ => My.zq2 (fun _ _ => rfl)) ?_ ?_ ?_ ?_, My.dmk KX G (fun _ _ _ _ _ _ => My.zq3 (fun _ _ _ => rfl)) ?_ ?_ ?_ ?_, My.dmk KX G (fun _ _ _ _ _ _ => My.zq4 (fun _ _ _ _ => rfl)) ?_ ?_ ?_ ?_, My.dmk KX G (fun _ _ _ _ _ _ => My.zq5 (fun _ _ _ _ _ => rfl)) ?_ ?_ ?_ ?_, My.mmk (fun _ _ _ _ _ _ => My.zq2 (fun _ _ => rfl)) ?_ ?_ ?_ ?_ ?_, My.mmk (fun _ _ _ _ _ _ => My.zq5 (fun _ _ _ _ _ => rfl)) ?_ ?_ ?_ ?_ ?_, My.mmk (fun _ _ _ _ _ _ => My.zq2 (fun _ _ => rfl)) ?_ ?_ ?_ ?_ ?_, My.dmk KX G (fun _ _ _ _ _ _ => My.zq3 (fun _ _ _ => rfl)) ?_ ?_ ?_ ?_, My.dmk KX G (fun _ _ _ _ _ _ => My.zq2 (fun _ _ => rfl)) ?_ ?_ ?_ ?_, My.mmk (fun _ _ _ _ _ _ => My.zq2 (fun _ _ => rfl)) ?_ ?_ ?_ ?_ ?_, My.mmk (fun _ _ _ _ _ _ => My.zq1 (fun _ => rfl)) ?_ ?_ ?_ ?_ ?_, My.mmk (fun _ _ _ _ _ _ => My.zq2 (fun _ _ => rfl)) ?_ ?_ ?_ ?_ ?_, My.mmk (fun _ _ _ _ _ _ => My.zq3 (fun _ _ _ => rfl)) ?_ ?_ ?_ ?_ ?_, My.mmk (fun _ _ _ _ _ _ => My.zq2 (fun _ _ => rfl)) ?_ ?_ ?_ ?_ ?_, My.mmk (fun _ _ _ _ _ _ => My.zq3 (fun _ _ _ => rfl)) ?_ ?_ ?_ ?_ ?_, My.mmk (fun _ _ _ _ _ _ => My.zq2 (fun _ _ => rfl)) ?_ ?_ ?_ ?_ ?_, My.mmk (fun _ _ _ _ _ _ => My.zq2 (fun _ _ => rfl)) ?_ ?_ ?_ ?_ ?_, My.mmk (fun _ _ _ _ _ _ => My.zq2 (fun _ _ => rfl)) ?_ ?_ ?_ ?_ ?_, My.dmk KX G (fun _ _ _ _ _ _ => My.zq3 (fun _ _ _ => rfl)) ?_ ?_ ?_ ?_, My.dmk KX G (fun _ _ _ _ _ _ => My.zq3 (fun _ _ _ => rfl)) ?_ ?_ ?_ ?_, My.mmk (fun _ _ _ _ _ _ => My.zq3 (fun _ _ _ => rfl)) ?_ ?_ ?_ ?_ ?_, My.mmk (fun _ _ _ _ _ _ => My.zq3 (fun _ _ _ => rfl)) ?_ ?_ ?_ ?_ ?_, My.mmk (fun _ _ _ _ _ _ => My.zq1 (fun _ => rfl)) ?_ ?_ ?_ ?_ ?_, My.mmk (fun _ _ _ _ _ _ => My.zq2 (fun _ _ => rfl)) ?_ ?_ ?_ ?_ ?_, My.mmk (fun _ _ _ _ _ _ => My.zq2 (fun _ _ => rfl)) ?_ ?_ ?_ ?_ ?_, My.mmk (fun _ _ _ _ _ _ => My.zq2 (fun _ _ => rfl)) ?_ ?_ ?_ ?_ ?_, My.mmk (fun _ _ _ _ _ _ => My.zq2 (fun _ _ => rfl)) ?_ ?_ ?_ ?_ ?_, My.mmk (fun _ _ _ _ _ _ => My.zq2 (fun _ _ => rfl)) ?_ ?_ ?_ ?_ ?_, My.dmk KX G (fun _ _ _ _ _ _ => My.zq2 (fun _ _ => rfl)) ?_ ?_ ?_ ?_, My.dmk KX G (fun _ _ _ _ _ _ => My.zq4 (fun _ _ _ _ => rfl)) ?_ ?_ ?_ ?_, My.mmk (fun _ _ _ _ _ _ => My.zq3 (fun _ _ _ => rfl)) ?_ ?_ ?_ ?_ ?_, My.dmk KX G (fun _ _ _ _ _ _ => My.zq4 (fun _ _ _ _ => rfl)) ?_ ?_ ?_ ?_, My.mmk (fun _ _ _ _ _ _ => My.zq3 (fun _ _ _ => rfl)) ?_ ?_ ?_ ?_ ?_, My.mmk (fun _ _ _ _ _ _ => My.zq2 (fun _ _ => rfl)) ?_ ?_ ?_ ?_ ?_, My.mmk (fun _ _ _ _ _ _ => My.zq3 (fun _ _ _ => rfl)) ?_ ?_ ?_ ?_ ?_, My.mmk (fun _ _ _ _ _ _ => My.zq3 (fun _ _ _ => rfl)) ?_ ?_ ?_ ?_ ?_, My.mmk (fun _ _ _ _ _ _ => My.zq2 (fun _ _ => rfl)) ?_ ?_ ?_ ?_ ?_, My.dmk KX G (fun _ _ _ _ _ _ => My.zq5 (fun _ _ _ _ _ => rfl)) ?_ ?_ ?_ ?_, My.dmk KX G (fun _ _ _ _ _ _ => My.zq3 (fun _ _ _ => rfl)) ?_ ?_ ?_ ?_, My.dmk KX G (fun _ _ _ _ _ _ => My.zq1 (fun _ => rfl)) ?_ ?_ ?_ ?_, My.mmk (fun _ _ _ _ _ _ => My.zq1 (fun _ => rfl)) ?_ ?_ ?_ ?_ ?_, My.mmk (fun _ _ _ _ _ _ => My.zq1 (fun _ => rfl)) ?_ ?_ ?_ ?_ ?_, My.dmk KX G (fun _ _ _ _ _ _ => My.zq1 (fun _ => rfl)) ?_ ?_ ?_ ?_, My.mmk (fun _ _ _ _ _ _ => My.zq1 (fun _ => rfl)) ?_ ?_ ?_ ?_ ?_, My.dmk KX G (fun _ _ _ _ _ _ => My.zq1 (fun _ => rfl)) ?_ ?_ ?_ ?_, ⟨PySem.W.mg_of KX G ?_, ⟨?_, ?_, ?_, ?_⟩, ⟨?_, ?_, ?_, ?_⟩⟩, ?_, ?_, ?_, ?_, ?_, ?_, ?_, ?_, ?_, ?_, ?_, ?_, ⟨PySem.W.mg_of KX G ?_, ⟨?_, ?_, ?_, ?_⟩, ⟨?_, ?_, ?_, ?_⟩⟩, ?_, ?_, ?_, ?_, ?_, ?_, ?_, ⟨PySem.W.mg_of KX G ?_, ⟨?_, ?_, ?_, ?_⟩, ⟨?_, ?_, ?_, ?_⟩⟩, ?_, ?_, ?_, ?_⟩ ?_ ?_ ?_ ?_ ?_ ?_ ?an1 ?_ ?_ ?_ ?_ ?_ ?_ ?_ ?_ ?_ ?_ ?_ ?_ ?_ ?_ ?_ ?_ ?_ ?J8
    any_goals first | k_is | (dsimp only[L2.bV]; k_is)
    any_goals first | k_is | (dsimp only[L2.bV]; k_is)
    (case an1 => kernel_rfl)
    (case J8 => decide)
