import PyProof.Rows.All
import Wide.All
import OpenK.AllK
import Wide.FinOn
import Lean
import PyProof.EqAt
import PyProof.EqKinds
import PyProof.TupleCall
import PyProof.ExcInit
import PyProof.ExcClass3
import OpenK.KOwn
import PyProof.ExcAttrAll.ValueError
import OpenK.KDescr
import KE.KIsNot
import PyProof.NeKinds
import PyProof.Draws
import PyProof.EnumMake
import PyProof.ZipIter
import KE.KListMore
import PyProof.Rows.FStr
import PyProof.FString
import PyProof.Rows.CallKw2
import PyProof.StrLawsTight
import PyProof.CompUse
import PyProof.CompFree
import PyProof.RaisesMany
import PyProof.NsDelKeeps
import PyProof.RulesAs
import PyProof.MaxThree
import PyProof.Rows.SumAny
import PyProof.Rows.StrJoin2
import KE.KRevIter
import PyProof.AutoRange
import PyProof.FactsAll.range_2
import PyProof.Rows.FactsT2
import PyProof.Rows.SortShell
import PyProof.Rows.SortWalk
import PyProof.DictIter
import PyProof.DictWalks
import KE.KDictLaws
import KE.KDictOf
import PyProof.AttrMissSeq
import KE.KIntText
import PyProof.Rows.SetFrom
import PyProof.Rows.SortRuns
import PyProof.Rows.SortStr
import PySem.Challenge.RW_inningsbook_k53_whole_there_and_back
set_option bootstrap.genMatcherCode false
set_option compiler.extract_closed false
set_option genSizeOf false
set_option Elab.async false
set_option linter.all false
set_option maxRecDepth 100000
set_option maxHeartbeats 4000000
set_option genInjectivity false
open PySem renaming wpAny_bind->zaa,wpAny_pure->zag,wpAny_mono->zaI,boot_len->zaO,wpAny_newObj_type->zaW,mem_of_lookup->zaZ,wpAny_truthy_bool->zba,wpAny_field->zbs,wpAny_holding->zbu,wpAny_loadPart_at->zbC,wpAny_typeNameOfWhole_keyiter->zbE,wpAny_callSpecial?_slot->zbF,wpAny_setField->zbH,wpAny_call_entry->zbS,plainObj_wpAny_Assign_Attribute->zbX,wpAny_Call_Name_kw->zca,tupleKind_room_in1->zcc,wpAny_isSubtype_exc->zcp,wpAny_execs_nil->zcr,wpAny_passesOwn->zcs,codeAny_mono->zcv,wpAny_call->zcC,wpAny_standAt->zcH,codeAny_call_builtin->zcP,wpAny_pyIter_list->zdp,wpAny_dictEntries->zds,wpAny_execs_cons->zdy,wpAny_lookBehind->zdz,pastItsLine_dict->zdA,wpAny_dictEpoch->zdM,sizeLine_eq->zdP,wpAny_loadPart->zdW
open List renaming getElem?_eq_some_iff->zab,length_map->zac,getElem?_eq_getElem->zae,length_append->zaf,getElem?_append_left->zaj,size_toArray->zan,mem_cons->zao,getElem?_map->zaq,map_cons->zas,getElem?_append_right->zat,all_cons->zau,mem_singleton->zaw,all_nil->zax,append_nil->zaz,getElem?_set_ne->zaA,getElem?_set_self->zaB,length_cons->zaD,getElem?_cons_succ->zaE,length_nil->zaG,take_length->zaH,mem_append_right->zaJ,map_append->zaK,cons_append->zaL,mem_cons_of_mem->zaM,take_of_length_le->zaN,length_take->zaQ,lookup_cons->zaR,all_eq_true->zaS,getElem?_cons_zero->zaX,mem_of_getElem?->zaY,append_assoc->zbb,not_mem_nil->zbe,drop_eq_nil_of_le->zbg,length_singleton->zbi,mem_map->zbl,mem_flatMap->zbm,foldl_cons->zbp,replicate_succ->zbr,map_map->zbt,contains_cons->zby,nodup_cons->zbz,getElem?_take_of_lt->zbA,mem_cons_self->zbK,map_nil->zbM,mem_append->zbN,filter_cons->zbU,replicate_zero->zbW,any_cons->zbZ,find?_cons->zcb,take_append_of_le_length->zce,nodup_append->zcf,eq_nil_or_concat->zci,mem_append_left->zcj,getElem_mem->zcm,filterMap_cons->zcn,map_congr_left->zcq,drop_eq_getElem_cons->zcu,any_map->zcz,getElem?_replicate->zcE,any_eq_true->zcI,length_set->zcO,getElem?_range->zcX,filter_eq_self->zcY,take_succ->zdc,take_zero->zdd,set_cons_succ->zdi,zip_cons_cons->zdj,getD_eq_getElem?_getD->zdm,set_comm->zdn,flatMap_cons->zdt,length_drop->zdD,all_map->zdE,drop_append->zdF,of_mem_zip->zdJ,nil_append->zdO,mem_range->zdU,getElem?_reverse->zea,set_append_right->zeb,take_append_drop->zec,any_nil->zeC
open PySem.Heap renaming get?_push_of_some->zad,lt_size->zam,get?_push_size->zap,get?_update_other->zaC,get?_update_self->zaV,size_push->zda
open Nat renaming le_refl->zah,le_trans->zai,lt_of_lt_of_le->zal,ne_of_lt->zar,lt_irrefl->zaP,le_succ->zbc,lt_succ_self->zbj,zero_add->zbT,ne_of_gt->zcg,le_add_right->zcl,lt_of_le_of_lt->zcA,zero_le->zcF,min_eq_right->zcK,min_eq_left->zcS,one_ne_zero->zcT,le_of_lt->zdx,lt_trans->zdB,add_sub_cancel_left->zdI,sub_self->zeD
open Bool renaming false_ne_true->zak,and_self->zay,and_eq_true_iff->zbf,eq_iff_iff->zbh,and_eq_true->zbv,false_eq_true->zcd,or_true->zcx,false_and->zcZ,true_and->zdo,or_eq_true->zdL,and_false->zdX,or_false->zej,and_true->zel
open Option.some renaming inj->zav,injEq->zbD
open PySem.F renaming plainAttrs_list->zaF,slot_list_append->zaT,type_list_append->zaU,slot_dict_keyiterator_next->zbn,slot_tuple_iterator_next->zbP,slot_list_getattribute->zcy,slot_dict_get->zcM,args_dict_keyiterator_next_1->zcQ,entry_dict_keyiterator_next->zcU,args_tuple_iterator_next_1->zdb,attrBase_ValueError->zdg,entry_tuple_iterator_next->zdh,args_tuple_add_2->zdC,args_dict_get_3->zdG,entry_tuple_add->zdH,entry_dict_get->zdR,slot_tuple_add->zdS
open Ne renaming symm->zbd
open PySem.Obj renaming data_mapFields->zbk,isFreed_of_fields->zch
open Int renaming toNat_natCast->zbo,natCast_add->zbB,eq_ofNat_of_zero_le->zbG,natCast_one->zbO,emod_lt_of_pos->zcB,emod_nonneg->zcR
open PySem.PassesOwn renaming never->zbq
open Option renaming bind_some->zbw,map_eq_some_iff->zbI,isSome_iff_exists->zbR,getD_none->zck,map_some->zct,getD_some->zcJ,isSome_map->zdr,isNone_iff_eq_none->zdw,isSome_some->zeu,isNone_none->zeB
open PySem.W.Looks renaming here->zbx
open PyProof.Rows renaming boot_list->zbJ,callWith_type1->zbL,slot_tuple_getitem->zbY
open PySem.W renaming looks_findIn->zbQ,looks_clsIn->zco,callWith_K->zcw,methodCall_KW->zcL,plainGet_of->zcW,cellsFrom_some->zdQ,looks_mroIn->zen,tail_of_in->zey,check_slot->zez,set_plain->zeF
open PySem.Heap.SameBut renaming update->zbV
open Eq renaming symm->zcD
open PySem.Calls renaming callWith_builtin->zcG,evalArgs_plain->zcN,spliced_cons->zdf,Name_function_global->zdk
open Array renaming length_toList->zcV,getElem?_eq_some_iff->zdl,getElem?_eq_getElem->zdv
open Sum.inr renaming inj->zde
open PySem.SeqAt.EqAt renaming same->zdK,int_str->zeq,str_int->zer,of_refs->zeA
theorem zp_0q(h:True:=by rfl):True:=trivial
def zp_0:Lean.Syntax:=zp_0q._auto_1
theorem zp_1q(h:True:=by decide):True:=trivial
def zp_1:Lean.Syntax:=zp_1q._auto_1
theorem zp_2q(h:True:=by first|decide|omega):True:=trivial
def zp_2:Lean.Syntax:=zp_2q._auto_1
theorem zp_3q(h:True:=by intro _;rfl):True:=trivial
def zp_3:Lean.Syntax:=zp_3q._auto_1
theorem zp_4q(h:True:=by first|exact .inl rfl|exact .inr rfl|assumption):True:=trivial
def zp_4:Lean.Syntax:=zp_4q._auto_1
theorem zp_5q(h:True:=by with_unfolding_all rfl):True:=trivial
def zp_5:Lean.Syntax:=zp_5q._auto_1
theorem zp_7q(h:True:=by first|exact Or.inl rfl|exact Or.inr (Or.inl rfl)|exact Or.inr (Or.inr rfl)):True:=trivial
def zp_7:Lean.Syntax:=zp_7q._auto_1
theorem zp_8q(h:True:=by intro _ _;rfl):True:=trivial
def zp_8:Lean.Syntax:=zp_8q._auto_1
theorem zp_9q(h:True:=by exact⟨rfl,rfl,rfl,rfl⟩):True:=trivial
def zp_9:Lean.Syntax:=zp_9q._auto_1
theorem zp_10q(h:True:=by first|exact Or.inl rfl|exact Or.inr rfl):True:=trivial
def zp_10:Lean.Syntax:=zp_10q._auto_1
namespace L2
open PySem PySem.Spec PyProof.Rows
theorem _root_.jp{p q:Prop}(a:p)(b:q):p∧q:=⟨a,b⟩
noncomputable abbrev dJ:=Sum Int Str
noncomputable def lH:dJ->Value->Bool
 |.inl k,v=>Value.isInt k v
 |.inr x,v=>Value.isStrOf x v
noncomputable def aj3 (w:World):dJ->Int
 |.inl k=>hashInt k
 |.inr x=>hashStr w x
theorem cW:∀{k:dJ} {v:Value},lH k v=true->(∃i t,k=Sum.inl i/\v=Value.int i t)\/(∃x t,k=Sum.inr x/\v=Value.str x t)
 |.inl i,v,h=>by
  obtain⟨t,e⟩:=Value.isInt_shape (k:=i) (v:=v) h
  exact .inl ⟨i,t,rfl,e⟩
 |.inr x,v,h=>by
  obtain⟨t,e⟩:=Value.isStrOf_shape (x:=x) (v:=v) h
  exact .inr ⟨x,t,rfl,e⟩
theorem Hr (i:Int)(t:Tok):lH (.inl i) (.int i t)=true:=by simp[lH,Value.isInt]
theorem Hs (x:Str)(t:Tok):lH (.inr x) (.str x t)=true:=by simp[lH,Value.isStrOf]
theorem XQ (a b:Int):decide ((Sum.inl a:dJ)=Sum.inl b)=(a == b):=by
 by_cases e:a=b
 ·subst e;simp
 ·have h:¬ (Sum.inl a:dJ)=Sum.inl b:=λq=>e (Sum.inl.inj q)
  rw[decide_eq_false h];exact (beq_eq_false_iff_ne.mpr e).symm
theorem XR (a b:Str):decide ((Sum.inr a:dJ)=Sum.inr b)=decide (a=b):=by
 by_cases e:a=b
 ·subst e;simp
 ·have h:¬ (Sum.inr a:dJ)=Sum.inr b:=λq=>e (zde q)
  rw[decide_eq_false h,decide_eq_false e]
theorem XS (a:Int)(b:Str):decide ((Sum.inl a:dJ)=Sum.inr b)=false:=decide_eq_false (λq=>nomatch q)
theorem XT (a:Str)(b:Int):decide ((Sum.inr a:dJ)=Sum.inl b)=false:=decide_eq_false (λq=>nomatch q)
noncomputable def bW (prog:Program)(w:World):PySem.KeyKind prog w dJ where
 is:=lH
 hash:=aj3 w
 inj:=λv a b ha hb=>by
  rcases cW ha with⟨i,t,rfl,rfl⟩|⟨x,t,rfl,rfl⟩
  ·rcases cW hb with⟨j,u,rfl,e⟩|⟨y,u,rfl,e⟩
   ·injection e with e1 _;rw[e1]
   ·exact nomatch e
  ·rcases cW hb with⟨j,u,rfl,e⟩|⟨y,u,rfl,e⟩
   ·exact nomatch e
   ·injection e with e1 _;rw[e1]
 byValue:=λk v h=>by
  rcases cW h with⟨i,t,rfl,rfl⟩|⟨x,t,rfl,rfl⟩<;>rfl
 pyHash:=λhv h=>by
  rcases cW hv with⟨i,t,rfl,rfl⟩|⟨x,t,rfl,rfl⟩
  ·exact wpAny_pyHash_int h
  ·exact wpAny_pyHash_str h
 eqBool:=λhu hv h=>by
  rcases cW hu with⟨i,t,rfl,rfl⟩|⟨x,t,rfl,rfl⟩
  ·rcases cW hv with⟨j,u,rfl,rfl⟩|⟨y,u,rfl,rfl⟩
   ·rw[XQ] at h;exact wpAny_eqBool_int h
   ·rw[XS] at h;exact zeq i t y u _ _ _ _ h
  ·rcases cW hv with⟨j,u,rfl,rfl⟩|⟨y,u,rfl,rfl⟩
   ·rw[XT] at h;exact zer x t j u _ _ _ _ h
   ·rw[XR] at h;exact wpAny_eqBool_str h
 «strs»:= λk x t v h=>by
  rcases cW h with⟨i,u,rfl,e⟩|⟨y,u,rfl,e⟩
  ·exact nomatch e
  ·injection e with e1 _
   subst e1;cases v<;>rfl
theorem Af (prog:Program)(w:World)(i:Int)(t:Tok):(bW prog w).is (.inl i) (.int i t)=true:=Hr i t
theorem Ag (prog:Program)(w:World)(x:Str)(t:Tok):(bW prog w).is (.inr x) (.str x t)=true:=Hs x t
set_option genInjectivity true in
inductive V where
 |bu|bl (b:Bool)|int (i:Int)|str (x:Str)|JF (b:Array UInt8)|flt (b:UInt64)|ref (a:Addr)|ty (n:String)
 deriving DecidableEq
noncomputable def bI:V->Value->Prop
 |.bu,u=>u=Value.none
 |.bl b,u=>u=Value.bool b
 |.int i,u=>∃t,u=Value.int i t
 |.str x,u=>∃t,u=Value.str x t
 |.JF b,u=>∃t,u=Value.bytes b t
 |.flt b,u=>∃t,u=Value.float b t
 |.ref a,u=>u=Value.ref a
 |.ty n,u=>u=Value.type n
noncomputable abbrev bN:List V->List Value->Prop:=Paired bI
theorem bN.length (r:bN xs us):xs.length=us.length:=Paired.length r
theorem bN.get:∀{xs:List V} {us:List Value} {i:Nat} {x:V},bN xs us->xs[i]? = some x->∃u,us[i]? = some u/\bI x u
 |_,_,_,_,.nil,e=>by simp at e
 |_,_,0,_,.cons r _,e=>by simp at e;subst e;exact⟨_,rfl,r⟩
 |_,_,i+1,x,.cons _ t,e=>by
  obtain⟨u,h1,h2⟩:=bN.get (i:=i) (x:=x) t (by simpa using e)
  exact⟨u,by simpa using h1,h2⟩
theorem bN.set (r:bI x u):∀{xs:List V} {us:List Value} (i:Nat),bN xs us->bN (xs.set i x) (us.set i u)
 |_,_,_,.nil=>.nil
 |_,_,0,.cons _ t=>.cons r t
 |_,_,i+1,.cons q t=>.cons q (bN.set r i t)
theorem bN.lJ:∀{xs ys:List V} {us ws:List Value},bN xs us->bN ys ws->bN (xs++ys) (us++ws)
 |_,_,_,_,.nil,s=>s
 |_,_,_,_,.cons r t,s=>.cons r (bN.lJ t s)
theorem bN.take:∀{xs:List V} {us:List Value} (n:Nat),bN xs us->bN (xs.take n) (us.take n)
 |_,_,0,_=>.nil
 |_,_,_+1,.nil=>.nil
 |_,_,n+1,.cons r t=>.cons r (bN.take n t)
theorem bN.drop:∀{xs:List V} {us:List Value} (n:Nat),bN xs us->bN (xs.drop n) (us.drop n)
 |_,_,0,r=>r
 |_,_,_+1,.nil=>.nil
 |_,_,n+1,.cons _ t=>bN.drop n t
noncomputable def iz:Option V->Option Value->Prop
 |some v,some u=>bI v u
 |none,none=>True
 |_,_=>False
noncomputable def KV {κ:Type}:List (κ × V)->List (κ × Value)->Prop:=Paired λ(p:κ × V) (q:κ × Value)=>p.1=q.1/\bI p.2 q.2
noncomputable def kV:dJ->V
 |.inl i=>.int i
 |.inr x=>.str x
inductive HO where
 /-- a list -/
 |bM (xs:List V)
 /-- a fH (never ajj) -/
 |gS (xs:List V)
 /-- a dict aeC pq are ints and aeD;JR aeC pq are tuples of ints and aeD (CO empty JR is aoZ) -/
 |dK (aP:List (dJ×V))|dT (aP:List (List dJ×V))
 /-- a set of ints:bg ajk,bg size -/
 |set (S:Int->Bool) (n:Nat)
 /-- an instance of CO class at C,bg dict at dx,bg XU -/
 |d_ (C dx:Addr) (fs:List (Str×V))
 /-- CO dict of CO instance at x -/
 |rO (x:Addr)
 /-- CO dict of an ad4 -/
 |xd (fs:List (Str×V))
 /-- a anj aj4,f of x -/
 |met (f x:Addr)
 /-- a range JS lo,lo+1,.. ank hi -/
 |rng (lo hi:Int)
 /-- a aeE ao0 is anl to CO JS (CO JT;a dict while a Pk anm it):ao1,never ajl while it is so -/
 |qY (o:Obj) (u:HO)
 /-- a ao2 aeF table -/
 |XW (ps:Array Value)
 /-- any EM aeE,by aj7 is true of bg JR JS (a def of ano rO:ao3 a S n:=HO.ext fun h=>..) -/
 |ext (φ:Heap->Prop)
noncomputable abbrev Hp:=Addr->Option HO
noncomputable def bF (H:Hp)(a:Addr)(o:HO):Hp:=λb=>if b=a then some o else H b
theorem az:bF H a o a=some o:=by unfold bF;rw[if_pos rfl]
theorem au (h:b≠a):bF H a o b=H b:=by unfold bF;rw[if_neg h]
theorem EN:bF (bF H a o) a u=bF H a u:=by
 funext b;unfold bF;split<;>rfl
theorem aeG {H:Hp}{a b:Addr}{o u:HO}(h:H a=some o)(h':H b=some u)(d:o≠u):a≠b:=by
 intro e;subst e;rw[h] at h';exact d (zav h')
theorem eX {H:Hp}{a b:Addr}{o:HO}(h:H a=some o)(h':H b=none):a≠b:=by
 intro e;subst e;rw[h] at h';cases h'
section
variable (P:Program)(w:World)
noncomputable def cJ (H:Hp)(h:Heap)(a:Addr):HO->Prop
 |.bM xs=>xs.length<=sizeLine/\∃(bg:List Value) (n:Nat),bN xs bg/\h.get? a=some { cls:=.type "list",data:=.seq bg.toArray n}
 |.gS xs=>xs.length<=sizeLine/\∃bg:List Value,bN xs bg/\IsTup h a bg.toArray
 |.dK aP=>aP.length<=sizeLine/\(a == sysModules)=false/\∃vs,KV aP vs/\h.DictOf (bW P w) a vs
 |.dT aP=>aP.length<=sizeLine/\(a == sysModules)=false/\∃xs:List (List dJ×Addr×Value),
   Paired (λ(p:List dJ×V) (q:List dJ×Addr×Value)=>p.1=q.1/\H q.2.1=some (.gS (p.1.map kV))/\bI p.2 q.2.2) aP xs /\
   ∃o es ep,h.get? a=some o/\o.ExactDict/\o.data = .dict es ep/\es.toList=xs.map (entryOfKey (tupleKind (bW P w)))/\(xs.map (·.1)).Nodup
 |.set S n=>h.SetOf (intKind P w) a S n
 |.d_ C dx fs=>H dx=some (.rO a)/\fs.length<=1000/\dx≠a/\h.get? a=some (PySem.W.instObj C dx) /\
   ∃mA,h.Ns1 dx mA/\(∀f,iz (fs.lookup f) (mA f))/\PySem.Within mA (fs.map (·.1))
 |.rO _=>∃o,h.get? a=some o
 |.xd fs=>∃mA,h.Ns1 a mA/\∀f,iz (fs.lookup f) (mA f)
 |.rng lo hi=>∃t u v,h.get? a=some { cls:=.type "range",data:=.fields #[.int lo t,.int hi u,.int 1 v]}
 |.qY o u=>h.get? a=some o/\cJ H h a u
 |.XW ps=>h.get? a=some {cls:=.none,data:=.fields ps}
 |.met f x=>h.get? a=some (PySem.W.methodObj (.ref f) (.ref x))
 |.ext φ=>φ h/\(∃o,h.get? a=some o)/\∀h1 h2:Heap,φ h1->(∀o,h1.get? a=some o->h2.get? a=some o) -> φ h2
noncomputable def mD (H:Hp)(h:Heap):Prop:=∀a o,H a=some o->cJ P w H h a o
end
theorem cJ.lt (x:cJ P w H h a o):a<h.objs.size:=by
 cases o with
 |bM xs=>obtain⟨_,_,_,_,e⟩:=x;exact zam e
 |gS xs=>obtain⟨_,_,_,p⟩:=x;exact p.lt
 |dK aP=>obtain⟨_,_,_,_,o,_,_,e,_⟩:=x;exact zam e
 |dT aP=>obtain⟨_,_,_,_,o,_,_,e,_⟩:=x;exact zam e
 |set S n=>obtain⟨o,_,_,_,e,_⟩:=x;exact zam e
 |d_ C dx fs=>obtain⟨_,_,_,e,_⟩:=x;exact zam e
 |rO y=>obtain⟨_,e⟩:=x;exact zam e
 |xd fs=>obtain⟨_,⟨_,_,_,e,_⟩,_⟩:=x;exact zam e
 |rng lo hi=>obtain⟨_,_,_,e⟩:=x;exact zam e
 |qY ob u=>obtain⟨e,_⟩:=x;exact zam e
 |XW ps=>exact zam (show h.get? a=some _ from x)
 |met f y=>exact zam (show h.get? a=some _ from x)
 |ext φ=>obtain⟨_,⟨_,e⟩,_⟩:=x;exact zam e
theorem Paired.XX {α β:Type}{F G:α -> β -> Prop}:∀{aeH:List α} {aeI:List β},Paired F aeH aeI->(∀a b,F a b->G a b)->Paired G aeH aeI
 |_,_,.nil,_=>.nil
 |_,_,.cons r t,f=>.cons (f _ _ r) (Paired.XX t f)
theorem cJ.pA (x:cJ P w H h a o)(k:∀b u,(b=a\/H b=some (.rO a))->h.get? b=some u->h'.get? b=some u)
  (ho:∀b,H b=some (.rO a)->H' b=some (.rO a)) (ht:∀b xs,H b=some (.gS xs)->H' b=some (.gS xs)):cJ P w H' h' a o:=by
 induction o with
 |bM xs=>obtain⟨z,bg,n,r,e⟩:=x;exact⟨z,bg,n,r,k _ _ (.inl rfl) e⟩
 |gS xs=>obtain⟨z,bg,r,ob,e,c⟩:=x;exact⟨z,bg,r,ob,k _ _ (.inl rfl) e,c⟩
 |dK aP=>obtain⟨z,y,vs,r,ob,es,ep,e,c⟩:=x;exact⟨z,y,vs,r,ob,es,ep,k _ _ (.inl rfl) e,c⟩
 |dT aP =>
  obtain⟨z,y,xs,r,ob,es,ep,e,c⟩:=x;exact⟨z,y,xs,Paired.XX r λp q z=>⟨z.1,ht _ _ z.2.1,z.2.2⟩,ob,es,ep,k _ _ (.inl rfl) e,c⟩
 |set S n=>obtain⟨ob,es,ep,t,e,c⟩:=x;exact⟨ob,es,ep,t,k _ _ (.inl rfl) e,c⟩
 |d_ C dx fs =>
  obtain⟨d,z,ne,e,mA,⟨od,es,ep,e2,c⟩,r⟩:=x
  exact⟨ho _ d,z,ne,k _ _ (.inl rfl) e,mA,⟨od,es,ep,k _ _ (.inr d) e2,c⟩,r⟩
 |rO y=>obtain⟨ob,e⟩:=x;exact⟨ob,k _ _ (.inl rfl) e⟩
 |xd fs=>obtain⟨mA,⟨od,es,ep,e,c⟩,r⟩:=x;exact⟨mA,⟨od,es,ep,k _ _ (.inl rfl) e,c⟩,r⟩
 |rng lo hi=>obtain⟨t,u,v,e⟩:=x;exact⟨t,u,v,k _ _ (.inl rfl) e⟩
 |qY ob u ih=>obtain⟨e,q⟩:=x;exact⟨k _ _ (.inl rfl) e,ih q⟩
 |XW ps =>
  have e:h.get? a=some {cls:=.none,data:=.fields ps}:=x
  show h'.get? a=some {cls:=.none,data:=.fields ps}
  exact k a _ (.inl rfl) e
 |met f y =>
  have e:h.get? a=some (PySem.W.methodObj (.ref f) (.ref y)):=x
  show h'.get? a=some (PySem.W.methodObj (.ref f) (.ref y))
  exact k a _ (.inl rfl) e
 |ext φ=>obtain⟨p,⟨o,e⟩,st⟩:=x;exact⟨st _ _ p λo q=>k _ _ (.inl rfl) q,⟨o,k _ _ (.inl rfl) e⟩,st⟩
theorem mD.lt (x:mD P w H h)(e:H a=some o):a<h.objs.size:=(x a o e).lt
theorem mD.fresh (x:mD P w H h)(e:h.objs.size<=a):H a=none:=by
 cases q:H a with
 |none=>rfl
 |some u=>exact absurd (zal (x.lt q) e) (zaP _)
theorem mD.gH (x:mD P w H h)(k:∀b u,h.get? b=some u->h'.get? b=some u):mD P w H h':=λa o e =>
 (x a o e).pA (λb u _ q=>k b u q) (λ_ q=>q) λ_ _ q=>q
theorem mD.jB (x:mD P w H h)(k:∀b u,h.get? b=some u->h'.get? b=some u)(hp:h.objs.size<=a)(new:cJ P w (bF H a o) h' a o):mD P w (bF H a o) h':=λb u e=>by
 have hn:=x.fresh hp;by_cases hb:b=a
 ·subst hb;rw[az] at e;cases e;exact new
 ·rw[au hb] at e
  exact (x b u e).pA (λc v _ q=>k c v q) (λc q=>by rw[au (eX q hn)];exact q) λc xs q=>by rw[au (eX q hn)];exact q
noncomputable def Rd (H:Hp)(a:Addr)(u:HO):Prop:=H a=some u\/∃o,H a=some (.qY o u)
theorem Rd.ok (r:Rd H a u)(x:mD P w H h):cJ P w H h a u:=by
 rcases r with r|⟨o,r⟩
 ·exact x a u r
 ·obtain⟨_,q⟩:=x a _ r
  exact q
noncomputable def Mut:Option HO->Prop
 |some (.bM _)=>True
 |some (.dK _)=>True
 |some (.dT _)=>True
 |some (.set _ _)=>True
 |some (.d_ _ _ _)=>True
 |some (.ext _)=>True
 |_=>False
theorem mD.jf (ok:mD P w H h)(mu:Mut (H x))(he:e=x\/H e=some (.rO x))(k:∀b u,b≠e->h.get? b=some u->h'.get? b=some u)(heo:∃u,h'.get? e=some u)
  (new:cJ P w (bF H x o') h' x o'):mD P w (bF H x o') h':=λb u q=>by
 have aeJ:∀c y,H c=some (.rO y)->c≠x:=λc y r z=>by subst z;rw[r] at mu;exact mu
 have aj8:∀c xs,H c=some (.gS xs)->c≠x:=λc xs r z=>by subst z;rw[r] at mu;exact mu
 by_cases hb:b=x
 ·subst hb;rw[az] at q;cases q;exact new
 ·rw[au hb] at q
  by_cases XY:b=e
  ·have q':H b=some (.rO x):=by
    rcases he with z|z
    ·exact absurd (XY.trans z) hb
    ·rw[XY];exact z
   rw[q] at q';cases q'
   obtain⟨v,hv⟩:=heo;exact⟨v,by rw[XY];exact hv⟩
  ·refine (ok b u q).pA (λc v hc r=>k c v ?_ r) (λc r=>by rw[au (aeJ c b r)];exact r) λc xs r=>by rw[au (aj8 c xs r)];exact r
   rcases hc with rfl|hc
   ·exact XY
   ·rintro rfl
    rcases he with z|z
    ·exact aeJ c b hc z
    ·rw[hc] at z;cases z;exact hb rfl
structure Un (fs ex:List Addr) (H H':Hp) (h h':Heap):Prop where
 keep:∀b o,h.get? b=some o->H b=none->b∉fs->b∉ex->h'.get? b=some o
 slot:∀b o,h.get? b=some o->H b=none->b∈fs->b∉ex->∃sl,h'.get? b=some {o with slots:=sl}
 free:∀b o,h.get? b=some o->H b=none->b∉ex->H' b=none
 there:∀b o,h.get? b=some o->b∉ex->∃o',h'.get? b=some o'
 rP:∀b xs,H b=some (.gS xs)->H' b=some (.gS xs)
 qM:∀b o u,H b=some (.qY o u)->H' b=some (.qY o u)
 rQ:∀b ps,H b=some (.XW ps)->∃jr,H' b=some (.XW (ps++jr))
theorem Un.any (u:Un fs ex H H1 h h1)(q:h.get? b=some ob)(n:H b=none)(hx:b∉ex):∃sl,h1.get? b=some {ob with slots:=sl}:=by
 by_cases hb:b∈fs
 ·exact u.slot b ob q n hb hx
 ·exact⟨ob.slots,u.keep b ob q n hb hx⟩
theorem Un.gH (k:∀b u,h.get? b=some u->h'.get? b=some u):Un fs ex H H h h':=
 ⟨λb ob q _ _ _=>k b ob q,λb ob q _ _ _=>⟨ob.slots,k b ob q⟩,λ_ _ _ n _=>n,λb ob q _=>⟨ob,k b ob q⟩,λ_ _ q=>q,λ_ _ _ q=>q,λ_ ps q=>⟨#[],by rw[q];simp⟩⟩
theorem Un.refl:Un fs ex H H h h:=Un.gH λ_ _ q=>q
theorem Un.jB (k:∀b u,h.get? b=some u->h'.get? b=some u)(hp:h.objs.size<=a)(hn:H a=none):Un fs ex H (bF H a o) h h' where
 keep:=λb u q _ _ _=>k b u q
 slot:=λb u q _ _ _=>⟨u.slots,k b u q⟩
 free:=λb u q n _=>by rw[au (zar (zal (zam q) hp))];exact n
 there:=λb u q _=>⟨u,k b u q⟩
 rP:=λb xs q=>by rw[au (eX q hn)];exact q
 qM:=λb u xs q=>by rw[au (eX q hn)];exact q
 rQ:=λb ps q=>⟨#[],by rw[au (eX q hn),q];simp⟩
theorem Un.jf (mu:Mut (H x))(he:e=x\/H e=some (.rO x))(k:∀b u,b≠e->h.get? b=some u->h'.get? b=some u)(heo:∃u,h'.get? e=some u):Un fs ex H (bF H x o) h h':=by
 have hx:∀b,H b=none->b≠x:=λb n z=>by subst z;rw[n] at mu;exact mu
 have hb:∀b,H b=none->b≠e:=λb n z=>by
  subst z;rcases he with r|r
  ·exact hx b n r
  ·rw[n] at r;cases r
 have hm:∀b u,H b=some u->¬ Mut (some u)->b≠x:=λb u q nm z=>by subst z;rw[q] at mu;exact nm mu
 refine⟨λb u q n _ _=>k b u (hb b n) q,λb u q n _ _=>⟨u.slots,k b u (hb b n) q⟩,λb u q n _=>by rw[au (hx b n)];exact n,λb u q _=>?_,
  λb xs q=>by rw[au (hm b _ q λz=>z)];exact q,λb u xs q=>by rw[au (hm b _ q λz=>z)];exact q,λb ps q=>⟨#[],by rw[au (hm b _ q λz=>z),q];simp⟩⟩
 by_cases XY:b=e
 ·subst XY;exact heo
 ·exact⟨u,k b u XY q⟩
noncomputable def trk (h:Heap)(H:Hp):List Addr:=(List.range h.objs.size).filter λa=>(H a).isSome
noncomputable def yx (h:Heap)(H:Hp):Heap:=PySem.W.hideAll h (trk h H)
theorem Ht (h:Heap)(H:Hp):(yx h H).objs.size=h.objs.size:=PySem.W.hideAll_size _ _
theorem JU (e:h.get? b=some o)(n:H b=none):(yx h H).get? b=some o:=
 PySem.W.hideAll_get _ e λhm=>by
  have q:(H b).isSome=true:=(List.mem_filter.mp hm).2
  rw[n] at q;simp at q
theorem Pn (e:(yx h H).get? b=some o):h.get? b=some o/\H b=none:=by
 have e':h.get? b=some o:=PySem.W.of_hideAll (trk h H) e
 refine⟨e',?_⟩
 cases q:H b with
 |none=>rfl
 |some x =>
  have hm:b∈trk h H:=List.mem_filter.mpr ⟨zdU.mpr (zam e'),by simp[q]⟩
  have z:(yx h H).get? b=none:=PySem.W.hideAll_none (trk h H) hm
  rw[z] at e;cases e
structure Mod (K:PySem.W.Frag) (mg:Str->Option Value) (base:Heap):Prop where
 XZ:K.In base
 rR:base.Ns mainGlobals mg
 Ua:∃mb,base.Ns builtinsNs mb/\∀x:Str,x ≠ "__name__" -> mb x=bootBuiltins x
 nolimit:base.NoLimit
structure Cx where
 prog:Program
 w:World
 K:PySem.W.Frag
 mg:Str->Option Value
 base:Heap
 A:Around
 N:List Str
 s₀:Shared
 H₀:Hp
 env:Env
 outer:List Env
 c8:List Env
 ex:List Addr
 fn:Str->Bool
 fQ:Bool
 pn:List (Addr×Obj)
 xe:Value->Shared->Prop
noncomputable def qZ (l:List Env):List Addr:=l.filterMap (·.frame)
noncomputable abbrev Cx.fs (X:Cx):List Addr:=qZ X.outer
noncomputable def Vis (sc:Scope)(x:Str):Prop:=sc.names.lookup x=some .local\/sc.names.lookup x=some .cell\/sc.names.lookup x=some .free
noncomputable def Ub (sc:Scope)(x:Str):Prop:=sc.names.lookup x=some .local\/sc.names.lookup x=some .cell
noncomputable def aj9 (env:Env)(h:Heap)(m:Str->Option Value)(x:Str)(u:Value):Prop:=
 (env.kindOf x=some .local/\m x=some u)\/((env.kindOf x=some .cell\/env.kindOf x=some .free)/\∃c,env.cells.lookup x=some c/\h.IsCell c (some u))
structure Cx.Ok (X:Cx):Prop where
 rS:Mod X.K X.mg X.base
 kind:X.env.scope.kind = .function
 rR:X.env.globals=mainGlobals
 Ua:X.env.builtins=builtinsNs
 above:X.s₀.heap.objs.size<=X.env.locals
 inj:∀x y c,X.env.cells.lookup x=some c->X.env.cells.lookup y=some c->x=y
 has:∀x,(X.env.kindOf x=some .cell\/X.env.kindOf x=some .free)->∃c,X.env.cells.lookup x=some c
 X0:∀x c,X.fn x=true->X.env.cells.lookup x=some c->X.s₀.heap.objs.size<=c
 hd:X.fQ=true->X.A.handled=none
 frames:X.A.frames=some X.c8
 stk:X.c8=X.outer\/(X.c8=X.env::X.outer/\X.env.frame=some X.env.locals)
 exf:∀b∈X.ex,b≠X.env.locals/\∀x c,X.env.cells.lookup x=some c->c≠b
 bs:∀b o,X.base.get? b=some o->X.s₀.heap.get? b=some o/\X.H₀ b=none
 O_:X.base.objs.size<=X.s₀.heap.objs.size
 jd:∀b o,X.base.get? b=some o->b∉X.ex
 CQ:∀b∈X.ex,b∉X.fs
 ly:X.s₀.heap.FunFrames X.base X.outer
 JV:∀b∈X.fs,X.H₀ b=none
structure aL (X:Cx) (ah:List (Addr×Obj)) (σ:List (Option V)) (H:Hp) (s:Shared):Prop where
 ok:X.Ok
 os:s.os=X.s₀.os
 g7:AllBare s.gens
 base:Un X.fs X.ex X.H₀ H X.s₀.heap s.heap
 z9:∃m,s.heap.Ns X.env.locals m/\∀(i:Nat) (x:Str) (v:V),X.N[i]? = some x -> σ[i]? = some (some v)->Vis X.env.scope x->∃u,bI v u/\aj9 X.env s.heap m x u
 cell:∀x c,X.env.cells.lookup x=some c->∃v,s.heap.IsCell c v
 free:H X.env.locals=none
 jC:∀x c,X.env.cells.lookup x=some c->H c=none
 Ah:∀p∈X.pn++ah,s.heap.get? p.1=some p.2/\H p.1=none/\p.1≠X.env.locals/\p.1∉X.fs/\∀v,p.2.data ≠ .cell v
 cA:mD X.prog X.w H s.heap
 len:σ.length=X.N.length
section
variable {X:Cx}{ah:List (Addr×Obj)}{σ:List (Option V)}{H H':Hp}{s:Shared}{h':Heap}
theorem Cx.Ok.aka (ok:X.Ok)(e:X.base.get? b=some o):b∉X.fs:=λhb=>by
 have:=(ok.ly.mem hb).1
 rw[e] at this;cases this
theorem aL.bs (I:aL X ah σ H s):∀b o,X.base.get? b=some o->s.heap.get? b=some o/\H b=none:=λb o e =>
 ⟨I.base.keep b o (I.ok.bs b o e).1 (I.ok.bs b o e).2 (I.ok.aka e) (I.ok.jd b o e),I.base.free b o (I.ok.bs b o e).1 (I.ok.bs b o e).2 (I.ok.jd b o e)⟩
theorem aL.bk (I:aL X ah σ H s):∀b o,X.base.get? b=some o->s.heap.get? b=some o:=λb o e=>(I.bs b o e).1
theorem aL.rS (I:aL X ah σ H s):Mod X.K X.mg X.base:=I.ok.rS
theorem aL.nY (I:aL X ah σ H s):X.K.In s.heap:=I.ok.rS.XZ.keeps I.bk
theorem aL.lt (I:aL X ah σ H s):X.env.locals<s.heap.objs.size:=let ⟨_,hn,_⟩:=I.z9;hn.lt
theorem aL.sz (I:aL X ah σ H s):X.s₀.heap.objs.size<=s.heap.objs.size:=zai I.ok.above (zdx I.lt)
theorem aL.akb (I:aL X ah σ H s)(h:s.heap.objs.size<=a):a∉X.fs:=λhb=>by
 obtain⟨_,o,ho,_⟩:=I.ok.ly.mem hb;exact absurd (zal (zam ho) (zai I.sz h)) (zaP _)
theorem aL.JW (I:aL X ah σ H s):∀x c,X.env.cells.lookup x=some c->c≠X.env.locals:=λx c e z=>by
 obtain⟨v,o,ho,hd⟩:=I.cell x c e;obtain⟨m,⟨o',es,ep,vD,Uc,_⟩,_⟩:=I.z9
 rw[z,vD] at ho;cases ho;rw[Uc] at hd;cases hd
theorem aL.ly (I:aL X ah σ H s):s.heap.FunFrames X.base X.outer:=by
 have all:∀(l:List Env),(∀b∈qZ l,b∈X.fs)->X.s₀.heap.FunFrames X.base l->s.heap.FunFrames X.base l:=by
  intro l;induction l with
  |nil=>intro _ _;trivial
  |cons env r ih =>
   intro hs hl;obtain⟨hk,⟨L,o,hf,hn,ho,hd⟩,hr⟩:=hl
   have hL:L∈X.fs:=hs L (by unfold qZ;rw[zcn,hf];exact zbK)
   obtain⟨sl,e⟩:=I.base.slot L o ho (I.ok.JV L hL) hL λz=>I.ok.CQ L z hL
   exact⟨hk,⟨L,_,hf,hn,e,hd⟩,ih (λb hb=>hs b (by unfold qZ;rw[zcn,hf];exact zaM _ hb)) hr⟩
 exact all X.outer (λ_ hb=>hb) I.ok.ly
theorem aL.c8 (I:aL X ah σ H s):s.heap.FunFrames X.base X.c8:=by
 rcases I.ok.stk with e|⟨e,hf⟩
 ·rw[e];exact I.ly
 ·rw[e]
  obtain⟨m,hn,_⟩:=I.z9;refine .cons (by rw[I.ok.kind];decide) hf hn ?_ I.ly
  exact Heap.get?_none_of_le (zai I.ok.O_ I.ok.above)
theorem aL.CS (I:aL X ah σ H s):∀b∈qZ X.c8,b∈X.env.locals::X.fs:=λb hb=>by
 rcases I.ok.stk with e|⟨e,hf⟩
 ·rw[e] at hb;exact zaM _ hb
 ·rw[e] at hb
  unfold qZ at hb;rw[zcn,hf] at hb;exact hb
theorem aL.ER (I:aL X ah σ H s):∀b∈qZ X.c8,H b=none:=λb hb=>by
 rcases zao.mp (I.CS b hb) with e|hb
 ·rw[e];exact I.free
 ·obtain⟨_,o,ho,_⟩:=I.ok.ly.mem hb
  exact I.base.free b o ho (I.ok.JV b hb) λz=>I.ok.CQ b z hb
theorem aL.Ai {g':Array GenState}{t':Nat}{d':Drawn}{ch:List Addr}(I:aL X ah σ H s)
  (Pa:∀b∈ch,(b∈X.ex\/X.s₀.heap.objs.size<=b)/\b≠X.env.locals/\(∀x c,X.env.cells.lookup x=some c->c≠b)/\∀p∈X.pn++ah,p.1≠b)
  (keep:∀b o,b≠X.env.locals->b∉X.fs->b∉ch->s.heap.get? b=some o->H b=none->h'.get? b=some o)
  (slot:∀b o,b≠X.env.locals->b∈X.fs->b∉ch->s.heap.get? b=some o->H b=none->∃sl,h'.get? b=some {o with slots:=sl}) (free:∀b o,b∉ch->s.heap.get? b=some o->H b=none->H' b=none)
  (there:∀b o,b∉ch->s.heap.get? b=some o->∃o',h'.get? b=some o')
  (rP:∀b xs,H b=some (.gS xs)->H' b=some (.gS xs)) (qM:∀b o u,H b=some (.qY o u)->H' b=some (.qY o u)) (rQ:∀b ps,H b=some (.XW ps)->∃jr,H' b=some (.XW (ps++jr)))
  (ns:∀m,s.heap.Ns X.env.locals m->h'.Ns X.env.locals m) (cA:mD X.prog X.w H' h') (hg:AllBare g'):
  aL X ah σ H' {s with heap:=h',gens:=g',drawn:=d',toks:=t' }:=by
 have neL:∀b o,X.s₀.heap.get? b=some o->b≠X.env.locals:=λb o e=>zar (zal (zam e) I.ok.above)
 have neC:∀b o,X.s₀.heap.get? b=some o->b∉X.ex->b∉ch:=λb o e hx hb=>by
  rcases (Pa b hb).1 with z|z
  ·exact hx z
  ·exact absurd (zal (zam e) z) (zaP _)
 have Ud:∀x c,X.env.cells.lookup x=some c->∀v,s.heap.IsCell c v->h'.IsCell c v:=λx c e v ⟨o,ho,hd⟩=>by
  have nch:c∉ch:=λz=>(Pa c z).2.2.1 x c e rfl
  by_cases hc:c∈X.fs
  ·obtain⟨sl,q⟩:=slot c o (I.JW x c e) hc nch ho (I.jC x c e)
   exact⟨_,q,hd⟩
  ·exact⟨o,keep c o (I.JW x c e) hc nch ho (I.jC x c e),hd⟩
 refine⟨I.ok,I.os,hg,⟨λb o e n hb hx=>?_,λb o e n hb hx=>?_,λb o e n hx=>?_,λb o e hx=>?_,λb xs e=>rP b xs (I.base.rP b xs e),λb o xs e=>qM b o xs (I.base.qM b o xs e),λb ps e=>?_⟩,?_,λx c e=>?_,?_,λx c e=>?_,λp hp=>?_,cA,I.len⟩
 ·exact keep b o (neL b o e) hb (neC b o e hx) (I.base.keep b o e n hb hx) (I.base.free b o e n hx)
 ·obtain⟨sl,e1⟩:=I.base.slot b o e n hb hx
  obtain⟨JX,e2⟩:=slot b _ (neL b o e) hb (neC b o e hx) e1 (I.base.free b o e n hx)
  exact⟨JX,e2⟩
 ·obtain⟨o',e1⟩:=I.base.there b o e hx
  exact free b o' (neC b o e hx) e1 (I.base.free b o e n hx)
 ·obtain⟨o',e1⟩:=I.base.there b o e hx
  exact there b o' (neC b o e hx) e1
 ·obtain⟨m1,e1⟩:=I.base.rQ b ps e
  obtain⟨m2,e2⟩:=rQ b _ e1;exact⟨m1++m2,by rw[e2,Array.append_assoc]⟩
 ·obtain⟨m,hn,hl⟩:=I.z9
  refine⟨m,ns m hn,λi x v e1 e2 e3=>?_⟩
  obtain⟨u,r,l⟩:=hl i x v e1 e2 e3;refine⟨u,r,?_⟩
  rcases l with l|⟨k,c,e,z⟩
  ·exact .inl l
  ·exact .inr ⟨k,c,e,Ud x c e _ z⟩
 ·obtain⟨v,z⟩:=I.cell x c e
  exact⟨v,Ud x c e v z⟩
 ·obtain⟨m,⟨o,_,_,ho,_⟩,_⟩:=I.z9
  exact free _ o (λz=>(Pa _ z).2.1 rfl) ho I.free
 ·obtain⟨v,o,ho,hd⟩:=I.cell x c e
  exact free c o (λz=>(Pa c z).2.2.1 x c e rfl) ho (I.jC x c e)
 ·obtain⟨e,n,ne,nf,d⟩:=I.Ah p hp
  have nch:p.1∉ch:=λz=>(Pa p.1 z).2.2.2 p hp rfl
  exact⟨keep p.1 p.2 ne nf nch e n,free p.1 p.2 nch e n,ne,nf,d⟩
theorem aL.un {t':Nat}(I:aL X ah σ H s)(u:Un X.fs [] H H' s.heap h')(cA:mD X.prog X.w H' h'):aL X ah σ H' {s with heap:=h',toks:=t' }:=by
 obtain⟨m,⟨o,es,ep,ho,r⟩,_⟩:=id I.z9
 obtain⟨sl,hL⟩:=u.any ho I.free (by simp)
 exact I.Ai (g':=s.gens) (d':=s.drawn) (ch:=[]) (λ_ z=>nomatch z) (λb o _ hb _ e n=>u.keep b o e n hb (by simp)) (λb o _ hb _ e n=>u.slot b o e n hb (by simp)) (λb o _ e n=>u.free b o e n (by simp)) (λb o _ e=>u.there b o e (by simp)) u.rP u.qM u.rQ (λm' hm=>by
  obtain⟨o',es',ep',vD,r'⟩:=hm;rw[ho] at vD;cases vD
  exact⟨_,es',ep',hL,r'⟩) cA I.g7
theorem aL.call {g':Array GenState}{t':Nat}{d':Drawn}{ch:List Addr}(I:aL X ah σ H s)(u:Un (qZ X.c8) ch H H' s.heap h')(cA:mD X.prog X.w H' h')(hg:AllBare g')
  (Pa:∀b∈ch,(b∈X.ex\/X.s₀.heap.objs.size<=b)/\b≠X.env.locals/\(∀x c,X.env.cells.lookup x=some c->c≠b)/\∀p∈X.pn++ah,p.1≠b):
  aL X ah σ H' {s with heap:=h',gens:=g',drawn:=d',toks:=t' }:=by
 obtain⟨m,⟨o,es,ep,ho,r⟩,_⟩:=id I.z9
 obtain⟨sl,hL⟩:=u.any ho I.free λz=>(Pa _ z).2.1 rfl
 exact I.Ai (ch:=ch) Pa (λb o hL hb hc e n=>u.keep b o e n (λz=>(zao.mp (I.CS b z)).elim hL hb) hc) (λb o _ _ hc e n=>u.any e n hc) (λb o hc e n=>u.free b o e n hc) (λb o hc e=>u.there b o e hc) u.rP u.qM u.rQ (λm' hm=>by
  obtain⟨o',es',ep',vD,r'⟩:=hm;rw[ho] at vD;cases vD
  exact⟨_,es',ep',hL,r'⟩) cA hg
theorem aL.iN {t':Nat}{it:Addr}(I:aL X ah σ H s)(k:∀b o,b≠it->s.heap.get? b=some o->h'.get? b=some o)(hn:H it=none)(hL:it≠X.env.locals)
  (h1:it∈X.ex\/X.s₀.heap.objs.size<=it) (h2:∀x c,X.env.cells.lookup x=some c->c≠it) (h3:∀p∈X.pn++ah,p.1≠it):aL X ah σ H {s with heap:=h',toks:=t' }:=by
 have nit:∀b u,H b=some u->b≠it:=λb u e z=>by rw[z,hn] at e;cases e
 refine I.Ai (g':=s.gens) (d':=s.drawn) (ch:=[it]) (λb hb=>?_) (λb o _ _ hc e _=>k b o (λz=>hc (by simp[z])) e) (λb o _ _ hc e _=>⟨o.slots,k b o (λz=>hc (by simp[z])) e⟩) (λ_ _ _ _ n=>n)
  (λb o hc e=>⟨o,k b o (λz=>hc (by simp[z])) e⟩) (λ_ _ e=>e) (λ_ _ _ e=>e) (λb ps e=>⟨#[],by rw[e];simp⟩) (λm hm=>?_) (λb u e=>?_) I.g7
 ·have e:b=it:=by simpa using hb
  subst e;exact⟨h1,hL,h2,h3⟩
 ·obtain⟨o,es,ep,ho,r⟩:=hm
  exact⟨o,es,ep,k _ o (zbd hL) ho,r⟩
 ·refine (I.cA b u e).pA (λc v hc q=>k c v ?_ q) (λ_ q=>q) λ_ _ q=>q
  rcases hc with z|z
  ·rw[z];exact nit b u e
  ·exact nit c _ z
theorem aL.nZ (I:aL X ah σ H s)(t:Nat):aL X ah σ H {s with toks:=t}:=I.un (h':=s.heap) (t':=t) Un.refl I.cA
theorem aL.gH (I:aL X ah σ H s)(k:∀b u,s.heap.get? b=some u->h'.get? b=some u):aL X ah σ H {s with heap:=h',toks:=t' }:=I.un (Un.gH k) (I.cA.gH k)
theorem aL.jB (I:aL X ah σ H s)(k:∀b u,s.heap.get? b=some u->h'.get? b=some u)(hp:s.heap.objs.size<=a)(new:cJ X.prog X.w (bF H a o) h' a o):
  aL X ah σ (bF H a o) {s with heap:=h',toks:=t' }:=I.un (Un.jB k hp (I.cA.fresh hp)) (I.cA.jB k hp new)
theorem aL.jf (I:aL X ah σ H s)(mu:Mut (H x))(he:e=x\/H e=some (.rO x))(k:∀b u,b≠e->s.heap.get? b=some u->h'.get? b=some u)(heo:∃u,h'.get? e=some u)
  (new:cJ X.prog X.w (bF H x o) h' x o):aL X ah σ (bF H x o) {s with heap:=h',toks:=t' }:=I.un (Un.jf mu he k heo) (I.cA.jf mu he k heo new)
theorem aL.ES (I:aL X ah σ H s)(h:∀p∈aeL,s.heap.get? p.1=some p.2/\H p.1=none/\p.1≠X.env.locals/\p.1∉X.fs/\∀v,p.2.data ≠ .cell v):aL X aeL σ H s:=
 ⟨I.ok,I.os,I.g7,I.base,I.z9,I.cell,I.free,I.jC,λp hp=>(zbN.mp hp).elim (λz=>I.Ah p (zcj _ z)) (h p),I.cA,I.len⟩
theorem rT {N:List Str}(hN:N.Nodup){i j:Nat}{x:Str}(a:N[i]? = some x)(b:N[j]? = some x):i=j:=by
 obtain⟨h1,e1⟩:=zab.mp a
 obtain⟨h2,e2⟩:=zab.mp b
 exact (List.getElem_inj hN).mp (e1.trans e2.symm)
theorem vW {M:Model}{A:Around}{E:Value->Shared->Prop}{i:Nat}{x:Str}{v:V}{u:Value}{Q:Unit->Shared->Prop}(I:aL X ah σ H s)(hN:X.N.Nodup)(hi:X.N[i]? = some x)(hx:Ub X.env.scope x)(r:bI v u)
  (h:∀s',aL X ah (σ.set i (some v)) H s'->(∃a,Heap.SameBut a s.heap s'.heap/\(a=X.env.locals\/X.env.cells.lookup x=some a))->Q () s') (hf:autoParam (X.fn x=true\/X.env.scope.names.lookup x=some .local) zp_4):wpAny M A (storeName X.env x u) Q E s:=by
 obtain⟨m,hn,hl⟩:=id I.z9;have JY:(X.env.scope.kind == .class || (X.env.scope.kind == .module && X.env.locals != X.env.globals))=false:=by rw[I.ok.kind];rfl
 have aeM:i<σ.length:=by rw[I.len];exact (zab.mp hi).1
 have JW:=I.JW;have oh:∀{a:Addr} {h':Heap},(∃o,s.heap.get? a=some o/\H a=none)->Heap.SameBut a s.heap h'->mD X.prog X.w H h':=λ{a h'} ha hs b ob e=>by
  obtain⟨_,_,vX⟩:=ha;refine (I.cA b ob e).pA (λc w' hc q=>(hs.2 c ?_).trans q) (λ_ q=>q) λ_ _ q=>q
  rintro rfl
  rcases hc with rfl|hc
  ·rw[vX] at e;cases e
  ·rw[vX] at hc;cases hc
 rcases hx with hk|hk
 ·refine wpAny_storeName_local hk hn (λh' hn' hs=>?_) JY
  obtain⟨oL,_,_,hoL,_⟩:=id hn;refine h _ ⟨I.ok,I.os,I.g7,⟨λb o e n hb hx=>?_,λb o e n hb hx=>?_,I.base.free,λb o e hx=>?_,I.base.rP,I.base.qM,I.base.rQ⟩,⟨_,hn',λj y v' e1 e2 e3=>?_⟩,λy c e=>?_,I.free,I.jC,λp hp=>?_,oh ⟨oL,hoL,I.free⟩ hs,by simpa using I.len⟩ ⟨_,hs,.inl rfl⟩
  ·exact (hs.2 b (zar (zal (zam e) I.ok.above))).trans (I.base.keep b o e n hb hx)
  ·obtain⟨sl,e1⟩:=I.base.slot b o e n hb hx
   exact⟨sl,(hs.2 b (zar (zal (zam e) I.ok.above))).trans e1⟩
  ·obtain⟨o',e1⟩:=I.base.there b o e hx
   exact⟨o',(hs.2 b (zar (zal (zam e) I.ok.above))).trans e1⟩
  ·by_cases hj:j=i
   ·subst hj
    rw[hi] at e1;cases e1
    rw[zaB aeM] at e2;cases e2;exact⟨u,r,.inl ⟨hk,by simp⟩⟩
   ·rw[zaA (zbd hj)] at e2
    obtain⟨u',r',q⟩:=hl j y v' e1 e2 e3;refine⟨u',r',?_⟩
    rcases q with⟨k,e⟩|⟨k,c,e,z⟩
    ·refine .inl ⟨k,?_⟩
     have:y≠x:=λe=>hj (rT hN e1 (e ▸ hi))
     simp[this,e]
    ·exact .inr ⟨k,c,e,z.sameBut hs (JW y c e)⟩
  ·obtain⟨w',z⟩:=I.cell y c e
   exact⟨w',z.sameBut hs (JW y c e)⟩
  ·obtain⟨e,n,ne,nf,d⟩:=I.Ah p hp
   exact⟨(hs.2 p.1 ne).trans e,n,ne,nf,d⟩
 ·have hfn:X.fn x=true:=by
   rcases hf with z|z
   ·exact z
   ·rw[z] at hk;cases hk
  obtain⟨c,hc⟩:=I.ok.has x (.inl hk)
  obtain⟨w',z⟩:=I.cell x c hc;refine wpAny_storeName_cell I.ok.kind hk hc z (λh' Po hs=>?_)
  obtain⟨oc,hoc,akf⟩:=id z;refine h {s with heap:=h' } ⟨I.ok,I.os,I.g7,⟨λb o e n hb hx=>?_,λb o e n hb hx=>?_,I.base.free,λb o e hx=>?_,I.base.rP,I.base.qM,I.base.rQ⟩,⟨m,hn.sameBut hs (zbd (JW x c hc)),λj y v' e1 e2 e3=>?_⟩,λy c' e=>?_,I.free,I.jC,λp hp=>?_,oh ⟨oc,hoc,I.jC x c hc⟩ hs,by simpa using I.len⟩ ⟨c,hs,.inr hc⟩
  ·exact (hs.2 b (zar (zal (zam e) (I.ok.X0 x c hfn hc)))).trans (I.base.keep b o e n hb hx)
  ·obtain⟨sl,e1⟩:=I.base.slot b o e n hb hx
   exact⟨sl,(hs.2 b (zar (zal (zam e) (I.ok.X0 x c hfn hc)))).trans e1⟩
  ·obtain⟨o',e1⟩:=I.base.there b o e hx
   exact⟨o',(hs.2 b (zar (zal (zam e) (I.ok.X0 x c hfn hc)))).trans e1⟩
  ·by_cases hj:j=i
   ·subst hj
    rw[hi] at e1;cases e1
    rw[zaB aeM] at e2;cases e2;exact⟨u,r,.inr ⟨.inl hk,c,hc,Po⟩⟩
   ·rw[zaA (zbd hj)] at e2
    obtain⟨u',r',q⟩:=hl j y v' e1 e2 e3;refine⟨u',r',?_⟩
    rcases q with q|⟨k,c',e,z'⟩
    ·exact .inl q
    ·refine .inr ⟨k,c',e,z'.sameBut hs ?_⟩
     rintro rfl
     exact hj (rT hN e1 (I.ok.inj _ _ _ e hc ▸ hi))
  ·by_cases hcc:c'=c
   ·subst hcc;exact⟨_,Po⟩
   ·obtain⟨w2,z2⟩:=I.cell y c' e
    exact⟨w2,z2.sameBut hs hcc⟩
  ·obtain⟨e,n,ne,nf,d⟩:=I.Ah p hp
   refine⟨(hs.2 p.1 ?_).trans e,n,ne,nf,d⟩
   intro q;rw[q,hoc] at e;have q':oc=p.2:=zav e
   exact d w' (by rw[<-q'];exact akf)
theorem om (I:aL X ah σ H s)(hN:X.N.Nodup)(hi:X.N[i]? = some x)(hx:Ub X.env.scope x)(r:bI v u)
  (h:∀s',aL X ah (σ.set i (some v)) H s'->Q () s') (hf:autoParam (X.fn x=true\/X.env.scope.names.lookup x=some .local) zp_4):wpAny M A (storeName X.env x u) Q E s:=
 vW I hN hi hx r (λs' I' _=>h s' I') hf
theorem aL.ET (I:aL X ah σ H s)(ho:s'.os=s.os)(u:Un (qZ X.c8) ch H H' s.heap s'.heap)(cA:mD X.prog X.w H' s'.heap)(hg:AllBare s'.gens)
  (Pa:∀b∈ch,(b∈X.ex\/X.s₀.heap.objs.size<=b)/\b≠X.env.locals/\(∀x c,X.env.cells.lookup x=some c->c≠b)/\∀p∈X.pn++ah,p.1≠b):aL X ah σ H' s':=by
 obtain⟨h',g',d',t',o'⟩:=s';have e:o'=s.os:=ho
 subst e;exact I.call (g':=g') (t':=t') (d':=d') u cA hg Pa
end
noncomputable abbrev XK:=Value->Option Addr->Hp->Prop
noncomputable abbrev St:=List (Option V)
noncomputable abbrev VK:=V->Hp->Prop
noncomputable abbrev TE:=St->Hp->VK->Prop
noncomputable abbrev TT:=St->Hp->(Bool->Hp->Prop)->Prop
noncomputable abbrev TA:=St->Hp->(List V->Hp->Prop)->Prop
structure rV where
 nx:St->Hp->Prop
 rt:VK
 bk:St->Hp->Prop:=λ_ _=>False
 ct:St->Hp->Prop:=λ_ _=>False
noncomputable abbrev TS:=rV->St->Hp->Prop
noncomputable def EP (X:Cx)(ah:List (Addr×Obj))(σ:St)(Q:VK)(u:Value)(s':Shared):Prop:=∃v H',aL X ah σ H' s'/\bI v u/\Q v H'
noncomputable def TP (X:Cx)(ah:List (Addr×Obj))(σ:St)(Q:Bool->Hp->Prop)(b:Bool)(s':Shared):Prop:=∃H',aL X ah σ H' s'/\Q b H'
noncomputable def AP (X:Cx)(ah:List (Addr×Obj))(σ:St)(Q:List V->Hp->Prop)(us:List Value)(s':Shared):Prop:=∃vs H',aL X ah σ H' s'/\bN vs us/\Q vs H'
noncomputable def SP (X:Cx)(ah:List (Addr×Obj))(D:rV)(f:Flow)(s':Shared):Prop:=
 match f with
 |.next=>∃dS H',aL X ah dS H' s'/\D.nx dS H'
 |.brk=>∃dS H',aL X ah dS H' s'/\D.bk dS H'
 |.cont=>∃dS H',aL X ah dS H' s'/\D.ct dS H'
 |.ret u=>∃v dS H',aL X ah dS H' s'/\bI v u/\D.rt v H'
noncomputable def PE (X:Cx)(e:Expr)(t:TE):Prop:=
 ∀(ah:List (Addr×Obj)) (s:Shared) (σ:St) (H:Hp) (Q:VK),aL X ah σ H s->t σ H Q->wpAny (model X.prog X.w) X.A (eval e X.env) (EP X ah σ Q) X.xe s
noncomputable def PT (X:Cx)(e:Expr)(t:TT):Prop:=
 ∀(ah:List (Addr×Obj)) (s:Shared) (σ:St) (H:Hp) (Q:Bool->Hp->Prop),aL X ah σ H s->t σ H Q->wpAny (model X.prog X.w) X.A (isTrue e X.env (eval e X.env)) (TP X ah σ Q) X.xe s
noncomputable def PW (X:Cx)(e:Expr)(t:TT):Prop:=
 ∀(rW:Sem Value) (ah:List (Addr×Obj)) (s:Shared) (σ:St) (H:Hp) (Q:Bool->Hp->Prop),aL X ah σ H s->t σ H Q->wpAny (model X.prog X.w) X.A (isTrue e X.env rW) (TP X ah σ Q) X.xe s
theorem PW.pt (h:PW X e t):PT X e t:=h _
noncomputable def PA (X:Cx)(es:List Expr)(t:TA):Prop:=
 ∀(pos:Pos) (ah:List (Addr×Obj)) (s:Shared) (σ:St) (H:Hp) (Q:List V->Hp->Prop),aL X ah σ H s->t σ H Q->wpAny (model X.prog X.w) X.A (spliced (backTo pos (starEach es X.env))) (AP X ah σ Q) X.xe s
noncomputable def PS (X:Cx)(st:Stmt)(t:TS):Prop:=
 ∀(ah:List (Addr×Obj)) (s:Shared) (σ:St) (H:Hp) (D:rV),aL X ah σ H s->t D σ H->wpAny (model X.prog X.w) X.A (exec st X.env) (SP X ah D) X.xe s
noncomputable def vY (X:Cx)(st:List Stmt)(t:TS):Prop:=
 ∀(ah:List (Addr×Obj)) (s:Shared) (σ:St) (H:Hp) (D:rV),aL X ah σ H s->t D σ H->wpAny (model X.prog X.w) X.A (execs st X.env) (SP X ah D) X.xe s
theorem cH {α:Type}{t:Sem α}{Q Q' : α -> Shared->Prop}{M:Model}{A:Around}{E:Value->Shared->Prop}{s:Shared}(h:wpAny M A t Q E s)(hQ:∀a s,Q a s->Q' a s):wpAny M A t Q' E s:=zaI h hQ λ_ _ x=>x
section
variable {X:Cx}
noncomputable def aeN (i:Nat):TE:=λσ H Q=>∃v,σ[i]? = some (some v)/\Q v H
noncomputable def tC (v:V):TE:=λ_ H Q=>Q v H
theorem JZ (hN:X.N[i]? = some x)(hv:Vis X.env.scope x)(hd:autoParam ((x == ("__debug__" : Str))=false) zp_1)(Aj:autoParam ((x == ("__classdict__" : Str))=false) zp_1):PE X (.Name x pos) (aeN i):=by
 intro ah s σ H Q I h;obtain⟨v,e,h⟩:=h;obtain⟨m,hn,hl⟩:=I.z9;obtain⟨u,r,l⟩:=hl i x v hN e hv;have dN:EP X ah σ Q u s:=⟨v,H,I,r,h⟩
 rcases l with⟨hk,hm⟩|⟨hk,c,hc,Ak⟩
 ·exact wpAny_Name (wpAny_loadName_local I.ok.kind hk hn hm dN) hd
 ·rcases hk with hk|hk
  ·exact wpAny_Name (wpAny_loadName_cell I.ok.kind hk hc Ak dN) hd
  ·exact wpAny_Name (wpAny_loadName_free I.ok.kind hk hc Ak dN Aj) hd
theorem X3 {i j pos}:PE X (.Constant (.int i) j pos) (tC (.int i)):=λ_ _ _ H _ I h=>wpAny_Constant_int ⟨.int i,H,I.nZ _,⟨_,rfl⟩,h⟩
theorem aeO {b j pos}:PE X (.Constant (.bool b) j pos) (tC (.bl b)):=λ_ _ _ H _ I h=>Constant_bool ⟨.bl b,H,I,rfl,h⟩
theorem X4 {j pos}:PE X (.Constant .none j pos) (tC .bu):=λ_ _ _ H _ I h=>Constant_none ⟨.bu,H,I,rfl,h⟩
theorem X5 {x j pos}:PE X (.Constant (.str x) j pos) (tC (.str x)):=λ_ _ _ H _ I h=>Calls.Constant_str ⟨.str x,H,I.nZ _,⟨_,rfl⟩,h⟩
noncomputable def Gl (X:Cx)(x:Str):Prop:=X.env.kindOf x=some .globalImplicit
theorem mE (I:aL X ah σ H s)(hg:Gl X x)(hm:X.mg x=some u)(h:Q u s)
  (hd:autoParam ((x == ("__debug__" : Str))=false) zp_1):wpAny (model X.prog X.w) X.A (eval (.Name x pos) X.env) Q E s:=
 zdk I.ok.kind hg (Calls.loadGlobal_global (by rw[I.ok.rR];exact I.rS.rR.keeps I.bk) hm h) hd
theorem rX (I:aL X ah σ H s)(hg:Gl X x)(hm:X.mg x=none)(hv:bootBuiltins x=some u)(h:Q u s)
  (hn:autoParam (x ≠ "__name__") zp_1) (hd:autoParam ((x == ("__debug__" : Str))=false) zp_1):wpAny (model X.prog X.w) X.A (eval (.Name x pos) X.env) Q E s:=by
 obtain⟨mb,h1,h2⟩:=I.rS.Ua;exact zdk I.ok.kind hg (Calls.loadGlobal_builtin (by rw[I.ok.rR];exact I.rS.rR.keeps I.bk) hm (by rw[I.ok.Ua];exact h1.keeps I.bk) ((h2 x hn).trans hv) h) hd
theorem Pp (hg:Gl X x)(hm:X.mg x=some u)(r:bI v u)(hd:autoParam ((x == ("__debug__" : Str))=false) zp_1):PE X (.Name x pos) (tC v):=
 λ_ _ _ H _ I h=>mE I hg hm ⟨v,H,I,r,h⟩ hd
variable {a b:Expr}{ta tb:TE}{pos:Pos}
noncomputable def PC (X:Cx)(op:CmpOp)(a b:Expr)(t:TE):Prop:=
 ∀(ah:List (Addr×Obj)) (s:Shared) (σ:St) (H:Hp) (Q:VK),aL X ah σ H s->t σ H Q ->
  wpAny (model X.prog X.w) X.A (eval a X.env) (λv cF=>wpAny (model X.prog X.w) X.A (eval b X.env) (λu lM=>wpAny (model X.prog X.w) X.A (compareOp op v u) (EP X ah σ Q) X.xe lM) X.xe cF) X.xe s
noncomputable def tB (t:TE):TT:=λσ H Q=>t σ H λx H1=>∃c,x = .bl c/\Q c H1
theorem X6 (h:PC X op a b t)(h1:behindInMarks op b=false:=by first|exact J0 _ (by decide) (by decide)|rfl):PE X (.Compare a [op] [b] pos) t:=λah s σ H Q I hw=>wpAny_Compare1 (h ah s σ H Q I hw) h1
theorem X7 (h:PC X op a b t)(h1:behindInMarks op b=false:=by first|exact J0 _ (by decide) (by decide)|rfl):PT X (.Compare a [op] [b] pos) (tB t):=by
 intro ah s σ H Q I hw;refine wpAny_isTrue_Compare1 (cH (h ah s σ H _ I hw) λv s1 h1=>cH h1 λu s2 h2=>cH h2 λc s3 ⟨x,H1,I1,r1,q1⟩=>?_) h1
 obtain⟨d,rfl,q⟩:=q1;cases r1;exact zba ⟨H1,I1,q⟩
theorem X8 (h:PE X e t)(he:autoParam (∀rW,isTrue e X.env rW=(do let v <-rW;standAt e.pos;holding [v] (truthy v))) zp_3):PT X e (tB t):=by
 intro ah s σ H Q I hw;refine isTrue_plain (cH (h ah s σ H _ I hw) λv s1 ⟨x,H1,I1,r1,q1⟩=>?_) (he _)
 obtain⟨d,rfl,q⟩:=q1;cases r1;exact zba ⟨H1,I1,q⟩
variable {tA tB':TT}{cK:List Expr}
noncomputable def akg (t u:TT):TT:=λσ H Q=>t σ H λc H1=>if c=true then u σ H1 Q else Q false H1
noncomputable def tOr (t u:TT):TT:=λσ H Q=>t σ H λc H1=>if c=true then Q true H1 else u σ H1 Q
noncomputable def akh (t:TT):TT:=λσ H Q=>t σ H λc H1=>Q (!c) H1
theorem Pq (ha:PT X a tA):PW X (.BoolOp .And [a] pos) tA:=by
 intro wh ah s σ H Q I h;refine isTrue_and (cH (ha ah s σ H Q I h) λc s1 e=>?_)
 cases c with
 |true=>exact isTrue_and_nil e
 |false=>exact e
theorem X_ (ha:PT X a tA):PW X (.BoolOp .Or [a] pos) tA:=by
 intro wh ah s σ H Q I h;refine isTrue_or (cH (ha ah s σ H Q I h) λc s1 e=>?_)
 cases c with
 |false=>exact isTrue_or_nil e
 |true=>exact e
theorem Yb (ha:PT X a tA)(hb:PW X (.BoolOp .And (b::cK) pos) tB'):PW X (.BoolOp .And (a::b::cK) pos) (akg tA tB'):=by
 intro wh ah s σ H Q I h;refine isTrue_and (cH (ha ah s σ H _ I h) λc s1 ⟨H1,I1,q1⟩=>?_)
 cases c with
 |true=>exact hb wh ah s1 σ H1 Q I1 q1
 |false=>exact⟨H1,I1,q1⟩
theorem aeP (ha:PT X a tA)(hb:PW X (.BoolOp .Or (b::cK) pos) tB'):PW X (.BoolOp .Or (a::b::cK) pos) (tOr tA tB'):=by
 intro wh ah s σ H Q I h;refine isTrue_or (cH (ha ah s σ H _ I h) λc s1 ⟨H1,I1,q1⟩=>?_)
 cases c with
 |true=>exact⟨H1,I1,q1⟩
 |false=>exact hb wh ah s1 σ H1 Q I1 q1
theorem Yc (ha:PT X a tA):PT X (.UnaryOp .Not a pos) (akh tA):=by
 intro ah s σ H Q I h;exact isTrue_not (ha ah s σ H (λc H1=>Q (!c) H1) I h)
noncomputable def aeQ (ta tb:TE):TE:=λσ H Q=>ta σ H λx H1=>∃c,x = .bl c/\if c=true then tb σ H1 Q else Q (.bl false) H1
noncomputable def aki (ta tb:TE):TE:=λσ H Q=>ta σ H λx H1=>∃c,x = .bl c/\if c=true then Q (.bl true) H1 else tb σ H1 Q
noncomputable def aeR (ta:TE):TE:=λσ H Q=>ta σ H λx H1=>∃c,x = .bl c/\Q (.bl (!c)) H1
theorem Yd {op}(h:PE X a t):PE X (.BoolOp op [a] pos) t:=λah s σ H Q I hw=>BoolOp_one (h ah s σ H Q I hw)
theorem Ye (ha:PE X a ta)(hb:PE X (.BoolOp .And (b::cK) pos) tb):PE X (.BoolOp .And (a::b::cK) pos) (aeQ ta tb):=by
 intro ah s σ H Q I h;refine BoolOp_and (cH (ha ah s σ H _ I h) λv s1 ⟨x,H1,I1,r1,q1⟩=>?_)
 obtain⟨c,rfl,q1⟩:=q1;cases r1;refine zba ?_
 cases c with
 |true=>exact hb ah s1 σ H1 Q I1 q1
 |false=>exact⟨.bl false,H1,I1,rfl,q1⟩
theorem aeS (ha:PE X a ta)(hb:PE X (.BoolOp .Or (b::cK) pos) tb):PE X (.BoolOp .Or (a::b::cK) pos) (aki ta tb):=by
 intro ah s σ H Q I h;refine BoolOp_or (cH (ha ah s σ H _ I h) λv s1 ⟨x,H1,I1,r1,q1⟩=>?_)
 obtain⟨c,rfl,q1⟩:=q1;cases r1;refine zba ?_
 cases c with
 |false=>exact hb ah s1 σ H1 Q I1 q1
 |true=>exact⟨.bl true,H1,I1,rfl,q1⟩
theorem Yg (ha:PE X a ta):PE X (.UnaryOp .Not a pos) (aeR ta):=by
 intro ah s σ H Q I h;refine UnaryOp_ (cH (ha ah s σ H _ I h) λv s1 ⟨x,H1,I1,r1,q1⟩=>?_)
 obtain⟨c,rfl,q1⟩:=q1;cases r1;exact not_of (zba ⟨.bl (!c),H1,I1,rfl,q1⟩)
noncomputable def tIf (t:TT)(ta tb:TE):TE:=λσ H Q=>t σ H λc H1=>if c=true then ta σ H1 Q else tb σ H1 Q
theorem J1 (hc:PT X c tA)(ha:PE X a ta)(hb:PE X b tb):PE X (.IfExp c a b pos) (tIf tA ta tb):=by
 intro ah s σ H Q I h;refine wpAny_IfExp (cH (hc ah s σ H _ I h) λd s1 ⟨H1,I1,q1⟩=>?_)
 cases d with
 |true=>exact ha ah s1 σ H1 Q I1 q1
 |false=>exact hb ah s1 σ H1 Q I1 q1
end
noncomputable def iO (K:PySem.W.Frag)(H:Hp)(a:Addr)(xs:List V):Prop:=
 Rd H a (.bM xs) \/
  ∃(o:Obj) (bg:Array Value) (n:Nat),K.lookup a=some o/\o.cls = .type "list" /\ o.dict=none/\o.data = .seq bg n/\bg.size<=sizeLine/\bN xs bg.toList
noncomputable def nA (K:PySem.W.Frag)(H:Hp)(a:Addr)(xs:List V):Prop:=
 Rd H a (.gS xs) \/
  ∃(o:Obj) (bg:Array Value) (n:Nat),K.lookup a=some o/\o.cls = .type "tuple" /\ o.data = .seq bg n/\bg.size<=sizeLine/\bN xs bg.toList
noncomputable def akj:Value->Option V
 |.none=>some .bu
 |.bool b=>some (.bl b)
 |.int i _=>some (.int i)
 |.str x _=>some (.str x)
 |.bytes b _=>some (.JF b)
 |.float b _=>some (.flt b)
 |.ref a=>some (.ref a)
 |.type n=>some (.ty n)
 |_=>none
theorem bI.abs (r:bI x u):akj u=some x:=by
 cases x with
 |bu=>cases r;rfl
 |bl _=>cases r;rfl
 |int _=>obtain⟨t,rfl⟩:=r;rfl
 |str _=>obtain⟨t,rfl⟩:=r;rfl
 |JF _=>obtain⟨t,rfl⟩:=r;rfl
 |flt _=>obtain⟨t,rfl⟩:=r;rfl
 |ref _=>cases r;rfl
 |ty _=>cases r;rfl
theorem bI.inj (r:bI x u)(q:bI y u):x=y:=zav (r.abs.symm.trans q.abs)
theorem bN.inj:∀{xs ys:List V} {us:List Value},bN xs us->bN ys us->xs=ys
 |_,_,_,.nil,.nil=>rfl
 |_,_,_,.cons r t,.cons r' t'=>by rw[r.inj r',bN.inj t t']
theorem iO.of {K:PySem.W.Frag}(h:H a=some (.bM xs)):iO K H a xs:=.inl (.inl h)
theorem nA.of {K:PySem.W.Frag}(h:H a=some (.gS xs)):nA K H a xs:=.inl (.inl h)
theorem aL.list (I:aL X ah σ H s)(h:iO X.K H a xs):∃bg:List Value,bN xs bg/\PlainL s.heap a bg.toArray/\xs.length<=sizeLine:=by
 rcases h with h|⟨o,bg,n,hk,hc,hd,hs,hz,r⟩
 ·obtain⟨z,bg,n,r,e⟩:=h.ok I.cA
  exact⟨bg,r,⟨_,n,e,rfl,rfl,rfl⟩,z⟩
 ·refine⟨bg.toList,r,⟨o,n,I.nY a o hk,hc,hd,by simpa using hs⟩,?_⟩
  have e:=r.length;simp only[zcV] at e;omega
theorem aL.fH (I:aL X ah σ H s)(h:nA X.K H a xs):∃bg:List Value,bN xs bg/\IsTup s.heap a bg.toArray/\xs.length<=sizeLine:=by
 rcases h with h|⟨o,bg,n,hk,hc,hs,hz,r⟩
 ·obtain⟨z,bg,r,p⟩:=h.ok I.cA
  exact⟨bg,r,p,z⟩
 ·refine⟨bg.toList,r,⟨o,I.nY a o hk,hc,n,by simpa using hs⟩,?_⟩
  have e:=r.length;simp only[zcV] at e;omega
theorem aL.rY (I:aL X ah σ H s)(h:iO X.K H a xs)(h':iO X.K H a ys):xs=ys:=by
 obtain⟨bg,r,⟨o,n,e,_,_,d⟩,_⟩:=I.list h
 obtain⟨its',r',⟨o',n',e',_,_,d'⟩,_⟩:=I.list h'
 rw[e] at e';cases e'
 rw[d] at d';injection d' with d1 _
 have:bg=its':=by simpa using congrArg Array.toList d1
 subst this;exact r.inj r'
theorem aL.vZ (I:aL X ah σ H s)(h:nA X.K H a xs)(h':nA X.K H a ys):xs=ys:=by
 obtain⟨bg,r,⟨o,e,_,n,d⟩,_⟩:=I.fH h
 obtain⟨its',r',⟨o',e',_,n',d'⟩,_⟩:=I.fH h'
 rw[e] at e';cases e'
 rw[d] at d';injection d' with d1 _
 have:bg=its':=by simpa using congrArg Array.toList d1
 subst this;exact r.inj r'
noncomputable abbrev Cx.qN (X:Cx)(E:Value->Shared->Prop):Cx:={X with xe:=E}
noncomputable abbrev Cx.Cz (X:Cx):Cx:=X.qN λ_ _=>False
theorem Cx.Ok.qN {X:Cx}(ok:X.Ok)(E:Value->Shared->Prop):(X.qN E).Ok:=
 ⟨ok.rS,ok.kind,ok.rR,ok.Ua,ok.above,ok.inj,ok.has,ok.X0,ok.hd,ok.frames,ok.stk,ok.exf,ok.bs,ok.O_,ok.jd,ok.CQ,ok.ly,ok.JV⟩
theorem Cx.Ok.f_ {X:Cx}{E:Value->Shared->Prop}(ok:(X.qN E).Ok):X.Ok:=
 ⟨ok.rS,ok.kind,ok.rR,ok.Ua,ok.above,ok.inj,ok.has,ok.X0,ok.hd,ok.frames,ok.stk,ok.exf,ok.bs,ok.O_,ok.jd,ok.CQ,ok.ly,ok.JV⟩
theorem aL.qN (I:aL X ah σ H s)(E:Value->Shared->Prop):aL (X.qN E) ah σ H s:=⟨I.ok.qN E,I.os,I.g7,I.base,I.z9,I.cell,I.free,I.jC,I.Ah,I.cA,I.len⟩
theorem aL.f_ (I:aL (X.qN E) ah σ H s):aL X ah σ H s:=⟨I.ok.f_,I.os,I.g7,I.base,I.z9,I.cell,I.free,I.jC,I.Ah,I.cA,I.len⟩
theorem SP.f_ (h:SP (X.qN E) ah D f s'):SP X ah D f s':=by
 cases f with
 |next=>obtain⟨dS,H',I,q⟩:=h;exact⟨dS,H',I.f_,q⟩
 |brk=>obtain⟨dS,H',I,q⟩:=h;exact⟨dS,H',I.f_,q⟩
 |cont=>obtain⟨dS,H',I,q⟩:=h;exact⟨dS,H',I.f_,q⟩
 |ret u=>obtain⟨v,dS,H',I,r,q⟩:=h;exact⟨v,dS,H',I.f_,r,q⟩
theorem vY.Cz {st:List Stmt}{t:TS}(h:vY X.Cz st t):vY X st t:=λah s σ H D I hw =>
 zaI (h ah s σ H D (I.qN _) hw) (λ_ _ q=>q.f_) λ_ _ z=>False.elim z
section
variable {X:Cx}{st:Stmt}{cK:List Stmt}{t u:TS}{e:Expr}{te:TE}{pos:Pos}
noncomputable def aeT:TS:=λD σ H=>D.nx σ H
noncomputable def akk (t u:TS):TS:=λD σ H=>t {D with nx:=u D} σ H
theorem Pr:vY X [] aeT:=λ_ _ σ H _ I h=>zcr ⟨σ,H,I,h⟩
theorem rZ (h1:PS X st t)(h2:vY X cK u):vY X (st::cK) (akk t u):=by
 intro ah s σ H D I h;refine zdy (cH (h1 ah s σ H {D with nx:=u D} I h) λf s1 q=>?_)
 cases f with
 |next =>
  obtain⟨dS,H',I',q⟩:=q;exact h2 ah s1 dS H' D I' q
 |ret v=>exact q
 |brk=>exact q
 |cont=>exact q
theorem EU (h1:PS X st t):vY X [st] t:=by
 intro ah s σ H D I h;refine zdy (cH (h1 ah s σ H D I h) λf s1 q=>?_)
 cases f with
 |next=>exact zcr q
 |ret v=>exact q
 |brk=>exact q
 |cont=>exact q
theorem aL.quiet (I:aL X ah σ H s):interactive X.env=false:=by simp[interactive,I.ok.kind]
noncomputable def aeU (te:TE):TS:=λD σ H=>te σ H λ_ H1=>D.nx σ H1
theorem EV (he:PE X e te)(hs:autoParam (swapsWith e none pos.line X.env=pure false) zp_0):PS X (.Expr e pos) (aeU te):=by
 intro ah s σ H D I h;exact wpAny_Expr_any (cH (he ah s σ H _ I h) λv s1 ⟨x,H1,I1,r1,q1⟩=>⟨σ,H1,I1,q1⟩) I.quiet hs
noncomputable def akl (te:TE):TS:=λD σ H=>te σ H D.rt
theorem Yh (he:PE X e te):PS X (.Return (some e) pos) (akl te):=by
 intro ah s σ H D I h;exact wpAny_Return_some (cH (he ah s σ H _ I h) λv s1 ⟨x,H1,I1,r1,q1⟩=>⟨x,σ,H1,I1,r1,q1⟩)
noncomputable def akm (c:TT)(t u:TS):TS:=λD σ H=>c σ H λb H1=>if b=true then t D σ H1 else u D σ H1
theorem aeV (hc:PT X c tc)(ha:vY X a t)(hb:vY X b u):PS X (.If c a b pos) (akm tc t u):=by
 intro ah s σ H D I h;refine wpAny_If (cH (hc ah s σ H _ I h) λd s1 ⟨H1,I1,q1⟩=>?_)
 cases d with
 |true=>exact ha ah s1 σ H1 D I1 q1
 |false=>exact hb ah s1 σ H1 D I1 q1
noncomputable def Yi:TS:=λ_ _ _=>False
theorem J2:PS X st Yi:=λ_ _ _ _ _ _ h=>h.elim
end
noncomputable abbrev TG:=V->St->Hp->(St->Hp->Prop)->Prop
noncomputable abbrev TGs:=List V->St->Hp->(St->Hp->Prop)->Prop
noncomputable def PG (X:Cx)(target:Expr)(t:TG):Prop:=
 ∀(ah:List (Addr×Obj)) (s:Shared) (σ:St) (H:Hp) (v:V) (u:Value) (Q:St->Hp->Prop),aL X ah σ H s->bI v u->t v σ H Q ->
  wpAny (model X.prog X.w) X.A (assign target X.env u) (λ_ s'=>∃dS H',aL X ah dS H' s'/\Q dS H') X.xe s
noncomputable def Pw (X:Cx)(ts:List Expr)(t:TGs):Prop:=
 ∀(ah:List (Addr×Obj)) (s:Shared) (σ:St) (H:Hp) (vs:List V) (us:List Value) (Q:St->Hp->Prop),aL X ah σ H s->bN vs us->t vs σ H Q ->
  wpAny (model X.prog X.w) X.A (assignInOrder ((assignEach ts X.env).map (·.2)) us) (λ_ s'=>∃dS H',aL X ah dS H' s'/\Q dS H') X.xe s
noncomputable abbrev aeW:=V->V->V->Hp->(Hp->Prop)->Prop
noncomputable def Yj (X:Cx)(t:aeW):Prop:=
 ∀(ah:List (Addr×Obj)) (s:Shared) (σ:St) (H:Hp) (o i v:V) (ov iv u:Value) (Q:Hp->Prop),aL X ah σ H s->bI o ov->bI i iv->bI v u->t o i v H Q ->
  wpAny (model X.prog X.w) X.A (setItem ov iv u) (λ_ s'=>∃H',aL X ah σ H' s'/\Q H') X.xe s
noncomputable def EW (i:Nat):TG:=λv σ H Q=>Q (σ.set i (some v)) H
theorem Px (hN:X.N.Nodup)(hi:X.N[i]? = some x)(hx:Ub X.env.scope x)(hf:autoParam (X.fn x=true\/X.env.scope.names.lookup x=some .local) zp_4):PG X (.Name x pos) (EW i):=by
 intro ah s σ H v u Q I r h;exact wpAny_assign_Name (om I hN hi hx r (λs' I'=>⟨_,H,I',h⟩) hf)
noncomputable def akn:TGs:=λvs σ H Q=>vs=[]/\Q σ H
noncomputable def aeX (t:TG)(u:TGs):TGs:=λvs σ H Q=>∃v r,vs=v::r/\t v σ H λdS H'=>u r dS H' Q
theorem Py:Pw X [] akn:=by
 intro ah s σ H vs us Q I r h;obtain⟨e,h⟩:=h;subst e;cases r;exact assignInOrder_nil ⟨σ,H,I,h⟩
theorem J3 (h1:PG X e t)(h2:Pw X es u)
  (hs:autoParam ((assignEach (e::es) X.env).map (·.2)=assign e X.env::(assignEach es X.env).map (·.2)) zp_0):Pw X (e::es) (aeX t u):=by
 intro ah s σ H vs us Q I r h;obtain⟨v,vr,e1,h⟩:=h;subst e1;cases r with
 |cons r rr =>
  rw[hs];refine assignInOrder_cons (cH (h1 ah s σ H _ _ _ I r h) λ_ s1 ⟨σ1,H1,I1,q1⟩=>?_)
  exact h2 ah s1 σ1 H1 _ _ Q I1 rr q1
noncomputable def ako (K:PySem.W.Frag)(n:Nat)(t:TGs):TG:=λv σ H Q=>∃a xs,v = .ref a/\nA K H a xs/\xs.length=n/\t xs σ H Q
theorem Yk (hc:X.fQ=true)(h:Pw X es t)
  (hn:autoParam ((assignEach es X.env).length=n) zp_0) (qm:autoParam ((assignEach es X.env).findIdx? (·.1)=none) zp_0):PG X (.Tuple es k pos) (ako X.K n t):=by
 intro ah s σ H v u Q I r hw;obtain⟨a,xs,e1,hq,hl,hw⟩:=hw;subst e1;cases r;obtain⟨bg,rv,ht,hz⟩:=I.fH hq;refine assign_Tuple_tuple (I.ok.hd hc) ht (by simp[hn,<-hl,rv.length]) qm λh' hx=>?_
 have I1:aL X ah σ H {s with heap:=h' }:=I.gH (t':=s.toks) λb o e=>hx b o (zar (zam e)) e
 exact h ah _ σ H xs _ Q I1 (by simpa using rv) hw
noncomputable def akp (to ti:TE)(t:aeW):TG:=λv σ H Q=>to σ H λo H1=>ti σ H1 λi H2=>t o i v H2 λH3=>Q σ H3
theorem Yl (ho:PE X o to)(hi:PE X i ti)(hs:Yj X t)
  (ha:autoParam (∀v,assign (.Subscript o i pos) X.env v=(do
   let ov <-holding [v] (eval o X.env)
   let iv <-holding [v,ov] (eval i X.env)
   standAt pos
   holding [v,ov,iv] (setItem ov iv v)
   release [v,ov,iv] [])) zp_3):PG X (.Subscript o i pos) (akp to ti t):=by
 intro ah s σ H v u Q I r h;rw[ha];refine zaa (zbu (cH (ho ah s σ H _ I h) λov s1 ⟨x,H1,I1,r1,q1⟩=>?_))
 refine zaa (zbu (cH (hi ah s1 σ H1 _ I1 q1) λiv s2 ⟨y,H2,I2,r2,q2⟩=>?_))
 refine zaa (zcH (zaa (zbu (cH (hs ah s2 σ H2 x y v ov iv u _ I2 r1 r2 r q2) λ_ s3 ⟨H3,I3,q3⟩=>?_))))
 exact wpAny_release ⟨σ,H3,I3,q3⟩
noncomputable def Pz (te:TE)(g:TG):TS:=λD σ H=>te σ H λx H1=>g x σ H1 D.nx
theorem Ym (he:PE X e te)(hg:PG X tg g)(hs:autoParam (swapsWithSole [tg] e pos.line X.env=pure false) zp_0)(hw:autoParam (swappedStores [tg] e X.env=pure none) zp_0)
  (h1:autoParam ((assignEach [tg] X.env).map (·.2)=[assign tg X.env]) zp_0):PS X (.Assign [tg] e pos) (Pz te g):=by
 intro ah s σ H D I h;refine wpAny_Assign_stores (cH (he ah s σ H _ I h) λv s1 ⟨x,H1,I1,r1,q1⟩=>?_) hs hw
 rw[h1];exact cH (hg ah s1 σ H1 x v _ I1 r1 q1) λ_ s2 q=>q
theorem Yn (hN:X.N.Nodup)(hi:X.N[i]? = some x)(hx:Ub X.env.scope x)(he:PE X e te)(hs:autoParam (swapsWith e (some (.Name x jD)) pos.line X.env=pure false) zp_0)(hf:autoParam (X.fn x=true\/X.env.scope.names.lookup x=some .local) zp_4):
  PS X (.Assign [.Name x jD] e pos) (Pz te (EW i)):=by
 intro ah s σ H D I h;refine wpAny_Assign_Name (cH (he ah s σ H _ I h) λv s1 ⟨y,H1,I1,r1,q1⟩=>?_) hs
 exact om I1 hN hi hx r1 (λs2 I2=>⟨_,H1,I2,q1⟩) hf
structure It where
 go:Nat->Hp->Prop
 yld:Nat->Hp->V->Hp->Prop
 stop:Nat->Hp->Prop
noncomputable def pB (X:Cx)(ah:List (Addr×Obj))(H:Hp)(b:Addr):Prop:=
 H b=none/\b≠X.env.locals/\b∉X.fs/\(b∈X.ex\/X.s₀.heap.objs.size<=b)/\(∀x c,X.env.cells.lookup x=some c->c≠b)/\∀p∈X.pn++ah,p.1≠b
theorem aL.Al (I:aL X ah σ H s)(hb:s.heap.objs.size<=b)(hn:H' b=none):pB X ah H' b:=by
 refine⟨hn,zcg (zal I.lt hb),I.akb hb,.inr (zai I.sz hb),λx c e z=>?_,λp hp z=>?_⟩
 ·obtain⟨v,q⟩:=I.cell x c e
  exact absurd (zal q.lt (by rw[z];exact hb)) (zaP _)
 ·exact absurd (zal (zam (I.Ah p hp).1) (by rw[z];exact hb)) (zaP _)
structure CT (P:Program) (w:World) (K:PySem.W.Frag) (tg:Expr) (J:It) (fp:List Addr) (it:Addr) (tn:Nat->Heap->Prop):Prop where
 mem:it∈fp
 lG:∀i h,tn i h->∀b∈fp,∃o,h.get? b=some o/\∀v,o.data ≠ .cell v
 keep:∀i h h',tn i h->(∀b∈fp,∀o,h.get? b=some o->h'.get? b=some o)->tn i h'
 item:∀(X:Cx),X.prog=P->X.w=w->X.K=K->X.fQ=true->∀(i:Nat) (ah:List (Addr×Obj)) (s:Shared) (σ:St) (H:Hp) (E:Value->Shared->Prop),aL X ah σ H s->(∀b∈fp,pB X ah H b)->tn i s.heap->J.go i H ->
  wpAny (model P w) X.A (pyNext (.ref it)) (λr s1=>∃u,r=some u /\
   wpAny (model P w) X.A (letOwnedTupleGo tg (.ref it) u) (λ_ s2=>∃x H',aL X ah σ H' s2/\bI x u/\J.yld i H x H'/\tn (i+1) s2.heap/\∀b∈fp,H' b=none) E s1) E s
 done:∀(X:Cx),X.prog=P->X.w=w->X.K=K->X.fQ=true->∀(i:Nat) (ah:List (Addr×Obj)) (s:Shared) (σ:St) (H:Hp) (E:Value->Shared->Prop),aL X ah σ H s->(∀b∈fp,pB X ah H b)->tn i s.heap->J.stop i H ->
  wpAny (model P w) X.A (pyNext (.ref it)) (λr s1=>r=none/\aL X ah σ H s1) E s
 self:∀(A:Around) (i:Nat) (s:Shared) (Q:Value->Shared->Prop) (E:Value->Shared->Prop),tn i s.heap->Q (.ref it) s->wpAny (model P w) A (pyIter (.ref it)) Q E s
noncomputable abbrev TI:=St->Hp->(It->Hp->Prop)->Prop
noncomputable def PIE (X:Cx)(ah:List (Addr×Obj))(σ:St)(tg:Expr)(R:It->Hp->Prop)(itv:Value)(s2:Shared):Prop:=
 ∃(it:Addr) (fp:List Addr) (tn:Nat->Heap->Prop) (J:It) (H':Hp),itv = .ref it/\aL X ah σ H' s2/\CT X.prog X.w X.K tg J fp it tn/\tn 0 s2.heap/\(∀b∈fp,pB X ah H' b)/\R J H'
noncomputable def PI (X:Cx)(tg dW:Expr)(wi:TI):Prop:=
 ∀(ah:List (Addr×Obj)) (s:Shared) (σ:St) (H:Hp) (R:It->Hp->Prop),aL X ah σ H s->wi σ H R ->
  wpAny (model X.prog X.w) X.A (eval dW X.env) (λv s1=>wpAny (model X.prog X.w) X.A (pyIter v) (PIE X ah σ tg R) X.xe s1) X.xe s
theorem Am (ho:s.heap.get? it=some o)(hc:o.cls = .type n)(hd:o.data = .fields vs)
    (hn:["enumerate","zip","dict_itemiterator","dict_reverseitemiterator","odict_iterator","itertools.zip_longest","itertools.pairwise"].contains n=false) (hQ:Q () s):wpAny M A (letOwnedTupleGo tg (.ref it) u) Q E s:=by
  unfold letOwnedTupleGo;cases tg<;>first
    |exact zag hQ
    | (cases u<;>first
        |exact zag hQ
        | (refine zaa (wpAny_load ho ?_)
           rw[hc,hd];show wpAny M A (if (["enumerate","zip","dict_itemiterator","dict_reverseitemiterator","odict_iterator","itertools.zip_longest","itertools.pairwise"].contains n && vs[0]? == some (rawInt _))=true then _ else _) Q E s
           rw[if_neg (by intro h;rw[hn,zcZ] at h;cases h)]
           exact zag hQ))
noncomputable def Itl (K:PySem.W.Frag)(a:Addr):It:=
 ⟨λi H=>∃xs x,iO K H a xs/\xs[i]? = some x,λi H x H'=>H'=H/\∀xs,iO K H a xs->xs[i]? = some x,λi H=>∃xs,iO K H a xs/\xs.length<=i⟩
noncomputable def Itt (K:PySem.W.Frag)(a:Addr):It:=
 ⟨λi H=>∃xs x,nA K H a xs/\xs[i]? = some x,λi H x H'=>H'=H/\∀xs,nA K H a xs->xs[i]? = some x,λi H=>∃xs,nA K H a xs/\xs.length<=i⟩
noncomputable def Itr (lo:Int)(n:Nat):It:=⟨λi _=>i<n,λi H x H'=>H'=H/\x = .int (lo+i),λi _=>n<=i⟩
theorem Hu {P:Program}{w:World}{K:PySem.W.Frag}{tg:Expr}(a it:Addr):CT P w K tg (Itl K a) [it] it (λi h=>h.IsListIter it a i) where
 mem:=by simp
 lG:=λi h st b hb=>by
  have e:b=it:=by simpa using hb
  subst e;obtain⟨o,e,c,d⟩:=st;exact⟨o,e,λv z=>by rw[d] at z;cases z⟩
 keep:=λi h h' st k=>st.at λo e=>k it (by simp) o e
 item:=by
  intro X hP hw hK hc i ah s σ H E I hf st hg;subst hP hw hK;obtain⟨xs,x,hq,hx⟩:=hg;obtain⟨bg,rv,p,hz⟩:=I.list hq;obtain⟨u,hu,ru⟩:=rv.get hx;obtain⟨f0,f1,f2,f3,f4,f5⟩:=hf it (by simp)
  refine wpAny_pyNext_list_item st p.isList (x:=u) (by simpa using hu) λh' v8 sb=>?_
  have I1:aL X ah σ H {s with heap:=h' }:=I.iN (t':=s.toks) (λb o hb e=>(sb.2 b hb).trans e) f0 f1 f3 f4 f5
  obtain⟨o,e,c,d⟩:=id v8;exact⟨u,rfl,Am (s:={s with heap:=h' }) e c d (by decide) ⟨x,H,I1,ru,⟨rfl,λys hy=>by rw[I.rY hy hq];exact hx⟩,v8,λb hb=>(hf b hb).1⟩⟩
 done:=by
  intro X hP hw hK hc i ah s σ H E I hf st hg;subst hP hw hK;obtain⟨xs,hq,hx⟩:=hg;obtain⟨bg,rv,p,hz⟩:=I.list hq;obtain⟨f0,f1,f2,f3,f4,f5⟩:=hf it (by simp)
  have hl:=rv.length;exact wpAny_pyNext_list_end (I.ok.hd hc) st p.isList (by simp;omega) λh' eb=>⟨rfl,I.iN (t':=s.toks) (λb o hb e=>eb b o hb e) f0 f1 f3 f4 f5⟩
 self:=λ_ _ _ _ _ st h=>wpAny_pyIter_listiter st h
theorem CU {P:Program}{w:World}{K:PySem.W.Frag}{tg:Expr}(a it:Addr):CT P w K tg (Itt K a) [it] it (λi h=>h.IsTupleIter it a i) where
 mem:=by simp
 lG:=λi h st b hb=>by
  have e:b=it:=by simpa using hb
  subst e;obtain⟨o,e,c,d⟩:=st;exact⟨o,e,λv z=>by rw[d] at z;cases z⟩
 keep:=λi h h' st k=>st.at λo e=>k it (by simp) o e
 item:=by
  intro X hP hw hK hc i ah s σ H E I hf st hg;subst hP hw hK;obtain⟨xs,x,hq,hx⟩:=hg;obtain⟨bg,rv,p,hz⟩:=I.fH hq;obtain⟨u,hu,ru⟩:=rv.get hx;obtain⟨f0,f1,f2,f3,f4,f5⟩:=hf it (by simp)
  refine wpAny_pyNext_tuple_item st (show s.heap.IsTuple a bg.toArray from p) (x:=u) (by simpa using hu) λh' v8 sb=>?_
  have I1:aL X ah σ H {s with heap:=h' }:=I.iN (t':=s.toks) (λb o hb e=>(sb.2 b hb).trans e) f0 f1 f3 f4 f5
  obtain⟨o,e,c,d⟩:=id v8;exact⟨u,rfl,Am (s:={s with heap:=h' }) e c d (by decide) ⟨x,H,I1,ru,⟨rfl,λys hy=>by rw[I.vZ hy hq];exact hx⟩,v8,λb hb=>(hf b hb).1⟩⟩
 done:=by
  intro X hP hw hK hc i ah s σ H E I hf st hg;subst hP hw hK;obtain⟨xs,hq,hx⟩:=hg;obtain⟨bg,rv,p,hz⟩:=I.fH hq;obtain⟨f0,f1,f2,f3,f4,f5⟩:=hf it (by simp)
  have hl:=rv.length;exact wpAny_pyNext_tuple_end (I.ok.hd hc) st (show s.heap.IsTuple a bg.toArray from p) (by simp;omega) λh' eb=>⟨rfl,I.iN (t':=s.toks) (λb o hb e=>eb b o hb e) f0 f1 f3 f4 f5⟩
 self:=λ_ _ _ _ _ st h=>wpAny_pyIter_tupleiter st h
theorem CV {P:Program}{w:World}{K:PySem.W.Frag}{tg:Expr}(it:Addr)(lo:Int)(n:Nat):CT P w K tg (Itr lo n) [it] it (λi h=>IsRangeIter h it (lo+(i:Nat) * 1) ((n:Int) - (i:Nat)) 1) where
 mem:=by simp
 lG:=λi h st b hb=>by
  have e:b=it:=by simpa using hb
  subst e;exact⟨_,st,λv z=>by
   have z':Data.fields _=Data.cell v:=z
   cases z'⟩
 keep:=λi h h' st k=>k it (by simp) _ st
 item:=by
  intro X hP hw hK hc i ah s σ H E I hf st hg;subst hP hw hK;obtain⟨f0,f1,f2,f3,f4,f5⟩:=hf it (by simp)
  have W:=Walks.range (prog:=X.prog) (w:=X.w) (I.ok.hd hc) it lo 1 n
  refine W.item i s _ _ hg st λv h' tk hv v8 kk=>?_
  obtain⟨t,rfl⟩:=hv;have I1:aL X ah σ H {s with heap:=h',toks:=tk}:=I.iN (λb o hb e=>kk b o (by simpa using hb) e) f0 f1 f3 f4 f5
  refine⟨_,rfl,Am (s:={s with heap:=h',toks:=tk}) (n:= "range_iterator") v8 rfl rfl (by decide) ⟨.int (lo+i),H,I1,⟨t,?_⟩,⟨rfl,rfl⟩,v8,λb hb=>(hf b hb).1⟩⟩
  rw[Int.mul_one]
 done:=by
  intro X hP hw hK hc i ah s σ H E I hf st hg;subst hP hw hK;obtain⟨f0,f1,f2,f3,f4,f5⟩:=hf it (by simp)
  exact wpAny_pyNext_range_end (I.ok.hd hc) st (by have:n<=i:=hg;omega) λh' eb=>⟨rfl,I.iN (t':=s.toks) (λb o hb e=>eb b o hb e) f0 f1 f3 f4 f5⟩
 self:=λ_ _ _ _ _ st h=>wpAny_pyIter_rangeiter st h
noncomputable def aeY (K:PySem.W.Frag)(tl:TE):TI:=λσ H R=>tl σ H λx H1=>∃a,x = .ref a/\(∃xs,iO K H1 a xs)/\R (Itl K a) H1
noncomputable def akt (K:PySem.W.Frag)(tl:TE):TI:=λσ H R=>tl σ H λx H1=>∃a,x = .ref a/\(∃xs,nA K H1 a xs)/\R (Itt K a) H1
theorem PB {l:Expr}{tl:TE}(hl:PE X l tl):PI X tg l (aeY X.K tl):=by
 intro ah s σ H R I h;refine cH (hl ah s σ H _ I h) λv s1 ⟨x,H1,I1,r1,q1⟩=>?_
 obtain⟨a,e,⟨xs,hq⟩,q⟩:=q1
 subst e;cases r1;obtain⟨bg,rv,p,hz⟩:=I1.list hq;refine zdp p.isList ?_
 refine⟨s1.heap.objs.size,[s1.heap.objs.size],_,_,H1,rfl,I1.gH (t':=s1.toks) λb o e=>zad _ e,Hu a _,⟨_,zap _ rfl,rfl,rfl⟩,λb hb=>?_,q⟩
 have e:b=s1.heap.objs.size:=by simpa using hb
 subst e;exact I1.Al (zah _) (I1.cA.fresh (zah _))
theorem Yo {l:Expr}{tl:TE}(hl:PE X l tl):PI X tg l (akt X.K tl):=by
 intro ah s σ H R I h;refine cH (hl ah s σ H _ I h) λv s1 ⟨x,H1,I1,r1,q1⟩=>?_
 obtain⟨a,e,⟨xs,hq⟩,q⟩:=q1
 subst e;cases r1;obtain⟨bg,rv,p,hz⟩:=I1.fH hq;refine wpAny_pyIter_tuple (show s1.heap.IsTuple a bg.toArray from p) ?_
 refine⟨s1.heap.objs.size,[s1.heap.objs.size],_,_,H1,rfl,I1.gH (t':=s1.toks) λb o e=>zad _ e,CU a _,⟨_,zap _ rfl,rfl,rfl⟩,λb hb=>?_,q⟩
 have e:b=s1.heap.objs.size:=by simpa using hb
 subst e;exact I1.Al (zah _) (I1.cA.fresh (zah _))
theorem J4 {ah:List (Addr×Obj)}{σ:St}{H:Hp}{s:Shared}{R:It->Hp->Prop}{E:Value->Shared->Prop}{lo hi:Int}{t u v:Tok}{tk:Nat}(I:aL X ah σ H s)(h1: -(2 ^ 62)<=lo)(h2:lo<2 ^ 62)(h3: -(2 ^ 62)<=hi)(h4:hi<2 ^ 62)
  (q:R (Itr lo (hi - lo).toNat) H):wpAny (model X.prog X.w) X.A (pyIter (.ref s.heap.objs.size)) (PIE X ah σ tg R) E { s with heap:=s.heap.push { cls:=.type "range",data:=.fields #[.int lo t,.int hi u,.int 1 v]},toks:=tk}:=by
 refine wpAny_pyIter_range (IsRange.new ..) (small_one h1 h2 h3 h4) ?_
 have I1:aL X ah σ H { s with heap:=s.heap.push { cls:=.type "range",data:=.fields #[.int lo t,.int hi u,.int 1 v]},toks:=tk}:=I.gH λb o e=>zad _ e
 refine⟨(s.heap.push { cls:=.type "range",data:=.fields #[.int lo t,.int hi u,.int 1 v]}).objs.size,[(s.heap.push { cls:=.type "range",data:=.fields #[.int lo t,.int hi u,.int 1 v]}).objs.size],_,_,H,rfl,
  I1.gH (t':=tk) λb o e=>zad _ e,CV _ lo (hi - lo).toNat,?_,λb hb=>?_,q⟩
 ·have e1:lo+((0:Nat):Int) * 1=lo:=by simp
  have e2:(((hi - lo).toNat:Nat):Int) - ((0:Nat):Int)=Builtin.Range.rangeSize lo hi 1:=by rw[rangeSize_one];split<;>omega
  show IsRangeIter _ _ (lo+((0:Nat):Int) * 1) ((((hi - lo).toNat:Nat):Int) - ((0:Nat):Int)) 1
  rw[e1,e2];exact zap _ rfl
 ·have e:b=(s.heap.push { cls:=.type "range",data:=.fields #[.int lo t,.int hi u,.int 1 v]}).objs.size:=by simpa using hb
  subst e;exact I1.Al (zah _) (I1.cA.fresh (zah _))
noncomputable def aeZ (ta:TA):TI:=λσ H R=>ta σ H λvs H1=>∃j:Int,vs=[.int j] /\ -(2 ^ 62)<=j/\j<2 ^ 62/\R (Itr 0 j.toNat) H1
theorem Hv {a:Expr}{ta:TA}{p pos:Pos}(hg:Gl X "range")(hm:X.mg "range"=none)(ha:PA X [a] ta)(hs:autoParam (starEach [a] X.env=[(false,eval a X.env)]) zp_0):PI X tg (.Call (.Name "range" p) [a] [] pos) (aeZ ta):=by
 intro ah s σ H R I h;refine Call_ (rX I hg hm boot_range (zbL (cH (ha pos ah s σ H _ I h) λus s1 ⟨vs,H1,I1,r1,q1⟩=>?_) hs rfl))
 obtain⟨j,e,q1,q2,q⟩:=q1;subst e;cases r1 with
 |cons r rr =>
  cases rr;obtain⟨t,rfl⟩:=r;exact call_range_1 (J4 I1 (by omega) (by omega) q1 q2 (by simpa using q))
noncomputable def aku (wi:TI)(g:TG)(tb:TS):TS:=λD σ H=>wi σ H λJ H1=>∃W:Nat->Nat->St->Hp->Prop,(∃m,W 0 m σ H1)/\∀i m σ H,W i m σ H ->
 (J.stop i H/\D.nx σ H)\/(J.go i H/\∃N:St->Hp->Prop,(∀dS H',N dS H'->∃m',m' < m/\W (i+1) m' dS H')/\∀x H',J.yld i H x H'->g x σ H' λz_ H2=>tb {D with nx:=N,ct:=N,bk:=D.nx} z_ H2)
noncomputable def r9 (fp:List Addr)(h:Heap):List (Addr×Obj):=fp.filterMap λb=>(h.get? b).map λo=>(b,o)
theorem jU (hb:b∈fp)(e:h.get? b=some o):(b,o)∈r9 fp h:=List.mem_filterMap.mpr ⟨b,hb,by rw[e];rfl⟩
theorem Hw (hp:p∈r9 fp h):p.1∈fp/\h.get? p.1=some p.2:=by
 obtain⟨b,hb,e⟩:=List.mem_filterMap.mp hp;cases q:h.get? b with
 |none=>rw[q] at e;cases e
 |some o =>
  rw[q] at e;have e':(b,o)=p:=zav e
  subst e';exact⟨hb,q⟩
theorem aL.J5 (I:aL X ah σ H s)(hf:∀b∈fp,pB X ah H b)(ho:∀b∈fp,∃o,s.heap.get? b=some o/\∀v,o.data ≠ .cell v):aL X (ah++r9 fp s.heap) σ H s:=
 I.ES λp hp=>(zbN.mp hp).elim (λz=>I.Ah p (zaJ _ z)) λz=>by
  obtain⟨hb,e⟩:=Hw z;obtain⟨f0,f1,f2,_⟩:=hf p.1 hb;obtain⟨o,e',d⟩:=ho p.1 hb;rw[e] at e';cases e'
  exact⟨e,f0,f1,f2,d⟩
theorem aL.oq (I:aL X (ah++pl) σ H s):aL X ah σ H s:=I.ES λp hp=>I.Ah p (zaJ _ (zcj _ hp))
theorem Yp (hp:PassesOwn (model X.prog X.w) X.A X.env X.xe)(hc:X.fQ=true)(hi:PI X tg dW wi)(hg:PG X tg g)(hb:vY X body tb)
  (hs:autoParam (∀x,foldedSetIterable dW X.env x=pure x) zp_3):PS X (.For tg dW body [] pos) (aku wi g tb):=by
 intro ah s σ H D I h;refine wpAny_For (cH (hi ah s σ H _ I h) λv s1 h1=>cH h1 λitv s2 h2=>?_) hs
 obtain⟨it,fp,tn,J,H2,e,I2,T,st2,f2,W,⟨m0,w0⟩,J6⟩:=h2
 subst e;-- aj7 anx true of CO Yq PD ajt CO Pk
 have CW:∀{H':Hp},(∀b∈fp,H' b=none)->∀b∈fp,pB X ah H' b:=λhn b hb=>⟨hn b hb,(f2 b hb).2⟩
 refine codeAny_forLoop_any (λn s'=>∃i dS H',aL X ah dS H' s'/\tn i s'.heap/\(∀b∈fp,H' b=none)/\W i n dS H') ?_ m0 ⟨0,σ,H2,I2,st2,λb hb=>(f2 b hb).1,w0⟩
 rintro n s3 ⟨i,σ3,H3,I3,st3,fr3,w3⟩
 rcases J6 i n σ3 H3 w3 with⟨stop,qn⟩|⟨go,N,hN,Ai⟩
 ·refine zcs hp (cH (T.done X rfl rfl rfl hc i ah s3 σ3 H3 X.xe I3 (CW fr3) st3 stop) λr s4 ⟨hr,I4⟩=>?_)
  subst hr;exact zcr ⟨σ3,H3,I4,qn⟩
 ·refine zcs hp (cH (T.item X rfl rfl rfl hc i ah s3 σ3 H3 X.xe I3 (CW fr3) st3 go) λr s4 ⟨u,hr,h4⟩=>?_)
  subst hr;refine zcs hp (cH h4 λ_ s5 ⟨x,H5,I5,r5,y5,st5,fr5⟩=>?_)
  have I5':=I5.J5 (CW fr5) (T.lG _ _ st5)
  refine zcs hp (cH (hg _ s5 σ3 H5 x u _ I5' r5 (Ai x H5 y5)) λ_ s6 ⟨J7,H6,I6,q6⟩=>?_)
  refine zcs hp (cH (hb _ s6 J7 H6 _ I6 q6) λf s7 q7=>?_)
  have again:∀{J8:St} {H7:Hp},aL X (ah++r9 fp s5.heap) J8 H7 s7->N J8 H7->∃m,m<n/\∃i dS H',aL X ah dS H' s7/\tn i s7.heap/\(∀b∈fp,H' b=none)/\W i m dS H':=λ{J8 H7} I7 n7=>by
   obtain⟨m',hm,w7⟩:=hN J8 H7 n7;refine⟨m',hm,i+1,J8,H7,I7.oq,T.keep _ _ _ st5 λb hb o e=>(I7.Ah (b,o) (zaJ _ (zaJ _ (jU hb e)))).1,λb hb=>?_,w7⟩
   obtain⟨o,e,d⟩:=T.lG _ _ st5 b hb;exact (I7.Ah (b,o) (zaJ _ (zaJ _ (jU hb e)))).2.1
  cases f with
  |next=>obtain⟨J8,H7,I7,n7⟩:=q7;exact again I7 n7
  |cont=>obtain⟨J8,H7,I7,n7⟩:=q7;exact again I7 n7
  |brk=>obtain⟨J8,H7,I7,q7⟩:=q7;exact⟨J8,H7,I7.oq,q7⟩
  |ret v=>obtain⟨x7,J8,H7,I7,r7,q7⟩:=q7;exact⟨x7,J8,H7,I7.oq,r7,q7⟩
noncomputable abbrev R2:=V->V->Hp->VK->Prop
noncomputable def jV (X:Cx)(f:Value->Value->Sem Value)(r:R2):Prop:=
 ∀(ah:List (Addr×Obj)) (s:Shared) (σ:St) (H:Hp) (x y:V) (v u:Value) (Q:VK),aL X ah σ H s->bI x v->bI y u->r x y H Q ->
  wpAny (model X.prog X.w) X.A (f v u) (EP X ah σ Q) X.xe s
noncomputable def UnR (X:Cx)(f:Value->Sem Value)(r:V->Hp->VK->Prop):Prop:=
 ∀(ah:List (Addr×Obj)) (s:Shared) (σ:St) (H:Hp) (x:V) (v:Value) (Q:VK),aL X ah σ H s->bI x v->r x H Q ->
  wpAny (model X.prog X.w) X.A (f v) (EP X ah σ Q) X.xe s
noncomputable def kQ (X:Cx)(f:Value)(r:List V->Hp->VK->Prop):Prop:=
 ∀(ah:List (Addr×Obj)) (s:Shared) (σ:St) (H:Hp) (xs:List V) (us:List Value) (Q:VK),aL X ah σ H s->bN xs us->r xs H Q ->
  wpAny (model X.prog X.w) X.A (call f us) (EP X ah σ Q) X.xe s
noncomputable def tOp (r:R2)(ta tb:TE):TE:=λσ H Q=>ta σ H λx H1=>tb σ H1 λy H2=>r x y H2 Q
noncomputable def tUn (r:V->Hp->VK->Prop)(ta:TE):TE:=λσ H Q=>ta σ H λx H1=>r x H1 Q
noncomputable def rI (C:Int->Int->Prop)(g:Int->Int->V):R2:=λx y H Q=>∃i j,x = .int i/\y = .int j/\C i j/\Q (g i j) H
noncomputable def PF (g:Int->Int->V):R2:=λx y H Q=>∃i j,x = .int i/\y = .int j/\Q (g i j) H
noncomputable def rU (g:Int->V):V->Hp->VK->Prop:=λx H Q=>∃i,x = .int i/\Q (g i) H
theorem Yr (ha:PE X a ta)(hb:PE X b tb){ah:List (Addr×Obj)}{s:Shared}{σ:St}{H:Hp}{R:V->V->Hp->Prop}(I:aL X ah σ H s)
  (h:ta σ H λx H1=>tb σ H1 λy H2=>R x y H2) {Q:Value->Shared->Prop} {f:Value->Value->Sem Value}
  (hf:∀v u s2 x y H2,aL X ah σ H2 s2->bI x v->bI y u->R x y H2->wpAny (model X.prog X.w) X.A (f v u) Q X.xe s2):
  wpAny (model X.prog X.w) X.A (eval a X.env) (λv cF=>wpAny (model X.prog X.w) X.A (eval b X.env) (λu lM=>wpAny (model X.prog X.w) X.A (f v u) Q X.xe lM) X.xe cF) X.xe s:=by
 refine cH (ha ah s σ H _ I h) λv s1 ⟨x,H1,I1,r1,q1⟩=>?_
 refine cH (hb ah s1 σ H1 _ I1 q1) λu s2 ⟨y,H2,I2,r2,q2⟩=>?_
 exact hf v u s2 x y H2 I2 r1 r2 q2
theorem ae3 {op:Operator}{r:R2}(ho:jV X (binaryOp op) r)(ha:PE X a ta)(hb:PE X b tb):PE X (.BinOp a op b pos) (tOp r ta tb):=by
 intro ah s σ H Q I h;exact wpAny_BinOp (Yr ha hb I h λv u s2 x y H2 I2 rx ry q=>ho ah s2 σ H2 x y v u Q I2 rx ry q)
theorem ae4 (ho:UnR X (unaryOp op) r)(ha:PE X a ta):PE X (.UnaryOp op a pos) (tUn r ta):=by
 intro ah s σ H Q I h;exact UnaryOp_ (cH (ha ah s σ H _ I h) λv s1 ⟨x,H1,I1,r1,q1⟩=>ho ah s1 σ H1 x v Q I1 r1 q1)
theorem opI {f:Value->Value->Sem Value}{C:Int->Int->Prop}{g:Int->Int->Int}
  (rule:∀(i j:Int) (t u:Tok) (s:Shared) (Q:Value->Shared->Prop) (E:Value->Shared->Prop),C i j->Q (.int (g i j) s.toks) {s with toks:=s.toks+1}->wpAny (model X.prog X.w) X.A (f (.int i t) (.int j u)) Q E s):
  jV X f (rI C λi j=>.int (g i j)):=by
 intro ah s σ H x y v u Q I rx ry h;obtain⟨i,j,rfl,rfl,hc,q⟩:=h;obtain⟨t,rfl⟩:=rx;obtain⟨t',rfl⟩:=ry;exact rule i j t t' s _ _ hc ⟨.int (g i j),H,I.nZ _,⟨_,rfl⟩,q⟩
theorem ae5 {f:Value->Value->Sem Value}{g:Int->Int->Int}
  (rule:∀(i j:Int) (t u:Tok) (s:Shared) (Q:Value->Shared->Prop) (E:Value->Shared->Prop),Q (.int (g i j) s.toks) {s with toks:=s.toks+1}->wpAny (model X.prog X.w) X.A (f (.int i t) (.int j u)) Q E s):
  jV X f (PF λi j=>.int (g i j)):=by
 intro ah s σ H x y v u Q I rx ry h;obtain⟨i,j,rfl,rfl,q⟩:=h;obtain⟨t,rfl⟩:=rx;obtain⟨t',rfl⟩:=ry;exact rule i j t t' s _ _ ⟨.int (g i j),H,I.nZ _,⟨_,rfl⟩,q⟩
theorem PK {f:Value->Value->Sem Value}{g:Int->Int->Bool}
  (rule:∀(i j:Int) (t u:Tok) (s:Shared) (Q:Value->Shared->Prop) (E:Value->Shared->Prop),Q (.bool (g i j)) s->wpAny (model X.prog X.w) X.A (f (.int i t) (.int j u)) Q E s):
  jV X f (PF λi j=>.bl (g i j)):=by
 intro ah s σ H x y v u Q I rx ry h;obtain⟨i,j,rfl,rfl,q⟩:=h;obtain⟨t,rfl⟩:=rx;obtain⟨t',rfl⟩:=ry;exact rule i j t t' s _ _ ⟨.bl (g i j),H,I,rfl,q⟩
noncomputable def akw (i j:Int):Prop:=0<j/\j<1073741824
noncomputable def Ys (i j:Int):Prop:=(-(2 ^ 64)<i/\i<2 ^ 64)\/(-(2 ^ 64)<j/\j<2 ^ 64)
theorem Ys.ok (h:Ys i j):IntMulOk i j:=by
 rcases h with⟨h1,h2⟩|⟨h1,h2⟩
 ·exact .of_left (intBits_le_64 h1 h2)
 ·exact .of_right (intBits_le_64 h1 h2)
theorem Yt:jV X (binaryOp .Add) (PF λi j=>.int (i+j)):=ae5 λ_ _ _ _ _ _ _ q=>add_int q
theorem Yu:jV X (binaryOp .Sub) (PF λi j=>.int (i - j)):=ae5 λ_ _ _ _ _ _ _ q=>sub_int q
theorem Yv:jV X (binaryOp .Mult) (rI Ys λi j=>.int (i * j)):=opI λ_ _ _ _ _ _ _ hc q=>mul_int q hc.ok
theorem PM:jV X (binaryOp .FloorDiv) (rI akw λi j=>.int (i / j)):=opI λi j _ _ _ _ _ hc q=>by
 have h1:(0:Int)<j:=hc.1
 have h2:j<1073741824:=hc.2
 exact floordiv_int (by omega) (by rw[Int.fdiv_eq_ediv_of_nonneg i (by omega)];exact q) (.inl (PyProof.noPylong_small (by omega)))
theorem Yw:jV X (binaryOp .Mod) (rI (λ_ j=>0<j) λi j=>.int (i % j)):=opI λi j _ _ _ _ _ hc q=>by
 have h1:(0:Int)<j:=hc
 exact mod_int' (by omega) (by rw[Int.fmod_eq_emod_of_nonneg i (by omega)];exact q)
theorem unI {f:Value->Sem Value}{g:Int->Int}
  (rule:∀(i:Int) (t:Tok) (s:Shared) (Q:Value->Shared->Prop) (E:Value->Shared->Prop),Q (.int (g i) s.toks) {s with toks:=s.toks+1}->wpAny (model X.prog X.w) X.A (f (.int i t)) Q E s):
  UnR X f (rU λi=>.int (g i)):=by
 intro ah s σ H x v Q I rx h;obtain⟨i,rfl,q⟩:=h;obtain⟨t,rfl⟩:=rx;exact rule i t s _ _ ⟨.int (g i),H,I.nZ _,⟨_,rfl⟩,q⟩
theorem Yx:UnR X (unaryOp .USub) (rU λi=>.int (-i)):=unI λ_ _ _ _ _ q=>neg_int q
noncomputable def Yy:V->V->Bool
 |.bu,.bu=>true|.bu,.int _=>true|.int _,.bu=>true|.bu,.bl _=>true|.bl _,.bu=>true|.bu,.str _=>true|.str _,.bu=>true
 |.int _,.int _=>true|.bl _,.bl _=>true|.str _,.str _=>true|.JF _,.JF _=>true
 |.int _,.str _=>true|.str _,.int _=>true|.bl _,.str _=>true|.str _,.bl _=>true
 |_,_=>false
noncomputable def rEq:R2:=λx y H Q=>Yy x y=true/\Q (.bl (decide (x=y))) H
noncomputable def rNe:R2:=λx y H Q=>Yy x y=true/\Q (.bl (!decide (x=y))) H
theorem EX:decide (V.int i=V.int j)=(i == j):=by
 rw[zbh];simp
theorem CY:decide (V.bl i=V.bl j)=(i == j):=by
 rw[zbh];simp
theorem EY:decide (V.str i=V.str j)=(i == j):=by
 rw[zbh];simp
theorem EZ:decide (V.JF i=V.JF j)=(i.toList == j.toList):=by
 rw[zbh];cases i;cases j;simp
theorem bU (I:aL X ah σ H s)(q:Q (.bl k) H)(e:k=k'):EP X ah σ Q (.bool k') s:=by
 subst e;exact⟨.bl k,H,I,rfl,q⟩
theorem ae6:jV X (compareOp .Eq) rEq:=by
 intro ah s σ H x y v u Q I rx ry h;obtain⟨hs,q⟩:=h;cases x with
 |bu =>
  cases rx;cases y with
  |bu=>cases ry;exact PySem.EqNone.eq_none_none (bU I q (by simp))
  |bl j=>cases ry;exact PySem.EqNone.eq_none_bool (bU I q (by simp))
  |int j=>obtain⟨t',rfl⟩:=ry;exact PySem.EqNone.eq_none_int (bU I q (by simp))
  |str j=>obtain⟨t',rfl⟩:=ry;exact PySem.EqNone.eq_none_str (bU I q (by simp))
  |_=>exact absurd (show false=true from hs) zak
 |bl i =>
  cases rx;cases y with
  |bu=>cases ry;exact PySem.EqNone.eq_bool_none (bU I q (by simp))
  |bl j=>cases ry;exact eq_bool (bU I q CY)
  |str j=>obtain⟨t',rfl⟩:=ry;exact PySem.EqMixed.eq_bool_str (bU I q (by simp))
  |_=>exact absurd (show false=true from hs) zak
 |int i =>
  obtain⟨t,rfl⟩:=rx;cases y with
  |bu=>cases ry;exact PySem.EqNone.eq_int_none (bU I q (by simp))
  |int j=>obtain⟨t',rfl⟩:=ry;exact eq_int (bU I q EX)
  |str j=>obtain⟨t',rfl⟩:=ry;exact PySem.EqMixed.eq_int_str (bU I q (by simp))
  |_=>exact absurd (show false=true from hs) zak
 |str i =>
  obtain⟨t,rfl⟩:=rx;cases y with
  |bu=>cases ry;exact PySem.EqNone.eq_str_none (bU I q (by simp))
  |bl j=>cases ry;exact PySem.EqMixed.eq_str_bool (bU I q (by simp))
  |int j=>obtain⟨t',rfl⟩:=ry;exact PySem.EqMixed.eq_str_int (bU I q (by simp))
  |str j=>obtain⟨t',rfl⟩:=ry;exact eq_str (bU I q EY)
  |_=>exact absurd (show false=true from hs) zak
 |JF i =>
  obtain⟨t,rfl⟩:=rx;cases y with
  |JF j=>obtain⟨t',rfl⟩:=ry;exact PySem.W.eq_bytes (bU I q EZ)
  |_=>exact absurd (show false=true from hs) zak
 |_=>cases y<;>exact absurd (show false=true from hs) zak
theorem ae7:jV X (compareOp .NotEq) rNe:=by
 intro ah s σ H x y v u Q I rx ry h;obtain⟨hs,q⟩:=h;cases x with
 |bu =>
  cases rx;cases y with
  |bu=>cases ry;exact PySem.EqNone.ne_none_none (bU I q (by simp))
  |bl j=>cases ry;exact PySem.EqNone.ne_none_bool (bU I q (by simp))
  |int j=>obtain⟨t',rfl⟩:=ry;exact PySem.EqNone.ne_none_int (bU I q (by simp))
  |str j=>obtain⟨t',rfl⟩:=ry;exact PySem.EqNone.ne_none_str (bU I q (by simp))
  |_=>exact absurd (show false=true from hs) zak
 |bl i =>
  cases rx;cases y with
  |bu=>cases ry;exact PySem.EqNone.ne_bool_none (bU I q (by simp))
  |bl j=>cases ry;exact ne_bool (bU I q (congrArg not CY))
  |str j=>obtain⟨t',rfl⟩:=ry;exact PySem.EqMixed.ne_bool_str (bU I q (by simp))
  |_=>exact absurd (show false=true from hs) zak
 |int i =>
  obtain⟨t,rfl⟩:=rx;cases y with
  |bu=>cases ry;exact PySem.EqNone.ne_int_none (bU I q (by simp))
  |int j=>obtain⟨t',rfl⟩:=ry;exact ne_int (bU I q (congrArg not EX))
  |str j=>obtain⟨t',rfl⟩:=ry;exact PySem.EqMixed.ne_int_str (bU I q (by simp))
  |_=>exact absurd (show false=true from hs) zak
 |str i =>
  obtain⟨t,rfl⟩:=rx;cases y with
  |bu=>cases ry;exact PySem.EqNone.ne_str_none (bU I q (by simp))
  |bl j=>cases ry;exact PySem.EqMixed.ne_str_bool (bU I q (by simp))
  |int j=>obtain⟨t',rfl⟩:=ry;exact PySem.EqMixed.ne_str_int (bU I q (by simp))
  |str j=>obtain⟨t',rfl⟩:=ry;exact ne_str (bU I q (congrArg not EY))
  |_=>exact absurd (show false=true from hs) zak
 |JF i =>
  obtain⟨t,rfl⟩:=rx;cases y with
  |JF j=>obtain⟨t',rfl⟩:=ry;exact PySem.W.ne_bytes (bU I q (congrArg not EZ))
  |_=>exact absurd (show false=true from hs) zak
 |_=>cases y<;>exact absurd (show false=true from hs) zak
theorem ae8:jV X (compareOp .Lt) (PF λi j=>.bl (decide (i<j))):=PK λ_ _ _ _ _ _ _ q=>lt_int q
theorem ae9:jV X (compareOp .LtE) (PF λi j=>.bl (decide (i<=j))):=PK λ_ _ _ _ _ _ _ q=>le_int q
theorem afa:jV X (compareOp .Gt) (PF λi j=>.bl (decide (j<i))):=PK λ_ _ _ _ _ _ _ q=>gt_int q
theorem afb:jV X (compareOp .GtE) (PF λi j=>.bl (decide (j<=i))):=PK λ_ _ _ _ _ _ _ q=>ge_int q
theorem Hx:jV X (compareOp .In) (λx y H Q=>∃i j,x = .str i/\y = .str j/\Q (.bl (!(Builtin.Str.occurrences j i 0 j.length 1).isEmpty)) H):=by
 intro ah s σ H x y v u Q I rx ry h;obtain⟨i,j,rfl,rfl,q⟩:=h;obtain⟨t,rfl⟩:=rx;obtain⟨t',rfl⟩:=ry;exact in_str (bU I q rfl)
theorem Yz:jV X (compareOp .Is) (λx y H Q=>y = .bu/\Q (.bl (decide (x = .bu))) H):=by
 intro ah s σ H x y v u Q I rx ry h;obtain⟨rfl,q⟩:=h;cases ry;refine is_none_gen (bU I q ?_)
 cases x<;>first
  | (cases rx;rfl)
  | (obtain⟨t,rfl⟩:=rx;rfl)
theorem PN:jV X (compareOp .IsNot) (λx y H Q=>y = .bu/\Q (.bl (!decide (x = .bu))) H):=by
 intro ah s σ H x y v u Q I rx ry h;obtain⟨rfl,q⟩:=h;cases ry;refine isnot_none_gen (bU I q ?_)
 cases x<;>first
  | (cases rx;rfl)
  | (obtain⟨t,rfl⟩:=rx;rfl)
theorem CZ (b:Expr)(h:autoParam (op ≠ .In) zp_1)(h2:autoParam (op ≠ .NotIn) zp_1):behindInMarks op b=false:=by
 have e1:(op == CmpOp.In)=false:=by cases op<;>first|rfl|exact absurd rfl h
 have e2:(op == CmpOp.NotIn)=false:=by cases op<;>first|rfl|exact absurd rfl h2
 cases b<;>simp[behindInMarks,e1,e2]
theorem PU (ho:jV X (compareOp op) r)(ha:PE X a ta)(hb:PE X b tb)(hm:behindInMarks op b=false):PE X (.Compare a [op] [b] pos) (tOp r ta tb):=by
 intro ah s σ H Q I h;exact wpAny_Compare1 (Yr ha hb I h λv u s2 x y H2 I2 rx ry q=>ho ah s2 σ H2 x y v u Q I2 rx ry q) hm
noncomputable def Ue (t:TE):TT:=λσ H Q=>t σ H λx H'=>∃k,x = .bl k/\Q k H'
theorem PV (ho:jV X (compareOp op) r)(ha:PE X a ta)(hb:PE X b tb)(hm:behindInMarks op b=false):PT X (.Compare a [op] [b] pos) (Ue (tOp r ta tb)):=by
 intro ah s σ H Q I h;refine wpAny_isTrue_Compare1 (cH (ha ah s σ H _ I h) λv s1 ⟨x,H1,I1,r1,q1⟩=>cH (hb ah s1 σ H1 _ I1 q1) λu s2 ⟨y,H2,I2,r2,q2⟩ =>
  cH (ho ah s2 σ H2 x y v u _ I2 r1 r2 q2) λc s3 ⟨z,H3,I3,r3,k,e,q3⟩=>?_) hm
 subst e;cases r3;exact zba ⟨H3,I3,q3⟩
noncomputable def C0 (r r':R2)(ta tb tc:TE):TE:=λσ H Q=>ta σ H λx H1=>tb σ H1 λy H2=>r x y H2 λz H3=>∃k,z = .bl k /\
 (if k=true then tc σ H3 λw' H4=>r' y w' H4 Q else Q (.bl false) H3)
theorem J9 (ho:jV X (compareOp op) r)(vD:jV X (compareOp J_) r')(ha:PE X a ta)(hb:PE X b tb)(hc:PE X c tc)
  (hm:autoParam (lastMarks [op,J_] [b,c]=false) zp_5):PE X (.Compare a [op,J_] [b,c] pos) (C0 r r' ta tb tc):=by
 intro ah s σ H Q I h;refine Compare_chain (cH (ha ah s σ H _ I h) λv s1 ⟨x,H1,I1,r1,q1⟩=>chain_link (cH (hb ah s1 σ H1 _ I1 q1) λu s2 ⟨y,H2,I2,r2,q2⟩ =>
  cH (ho ah s2 σ H2 x y v u _ I2 r1 r2 q2) λd s3 ⟨z,H3,I3,r3,k,e,q3⟩=>?_)) hm
 subst e;cases r3;refine zba ?_
 cases k with
 |false=>exact ite_ff ⟨.bl false,H3,I3,rfl,q3⟩
 |true=>exact ite_tt (chain_last (cH (hc ah s3 σ H3 _ I3 q3) λw' s4 ⟨z',H4,I4,r4,q4⟩=>vD ah s4 σ H4 y z' u w' Q I4 r2 r4 q4))
theorem Ka (ho:jV X (compareOp op) r)(vD:jV X (compareOp J_) r')(ha:PE X a ta)(hb:PE X b tb)(hc:PE X c tc)
  (hm:autoParam (lastMarks [op,J_] [b,c]=false) zp_5):PT X (.Compare a [op,J_] [b,c] pos) (Ue (C0 r r' ta tb tc)):=by
 intro ah s σ H Q I h;refine isTrue_chain (cH (ha ah s σ H _ I h) λv s1 ⟨x,H1,I1,r1,q1⟩=>test_link (cH (hb ah s1 σ H1 _ I1 q1) λu s2 ⟨y,H2,I2,r2,q2⟩ =>
  cH (ho ah s2 σ H2 x y v u _ I2 r1 r2 q2) λd s3 ⟨z,H3,I3,r3,k,e,q3⟩=>?_)) hm
 subst e;cases r3;refine zba ?_
 cases k with
 |false =>
  obtain⟨k',e',q'⟩:=q3;cases e';exact ite_ff ⟨H3,I3,q'⟩
 |true =>
  refine ite_tt (test_last (cH (hc ah s3 σ H3 _ I3 q3) λw' s4 ⟨z',H4,I4,r4,q4⟩=>cH (vD ah s4 σ H4 y z' u w' _ I4 r2 r4 q4) λd' s5 ⟨z2,H5,I5,r5,k2,e2,q5⟩=>?_))
  subst e2;cases r5;exact zba ⟨H5,I5,q5⟩
theorem pC:(sizeLine:Nat)<2 ^ 63:=by rw[zdP];decide
theorem C1:jV X (binaryOp .Add) (λx y H Q=>∃i j,x = .str i/\y = .str j/\i.length+j.length<=sizeLine/\Q (.str (i++j)) H):=by
 intro ah s σ H x y v u Q I rx ry h;obtain⟨i,j,rfl,rfl,hz,q⟩:=h;obtain⟨t,rfl⟩:=rx;obtain⟨t',rfl⟩:=ry;exact add_str (λt' tk=>⟨.str (i++j),H,I.nZ _,⟨_,rfl⟩,q⟩) hz
theorem qo (r:bN [x] us):∃u,us=[u]/\bI x u:=by
 cases r with
 |cons r1 r2=>cases r2;exact⟨_,rfl,r1⟩
theorem afc (r:bN [x,y] us):∃u w',us=[u,w']/\bI x u/\bI y w':=by
 cases r with
 |cons r1 r2 =>
  cases r2 with
  |cons r3 r4=>cases r4;exact⟨_,_,rfl,r1,r3⟩
theorem Hy (hc:X.fQ=true):kQ X (.builtin "min") (λxs H Q=>∃i j,xs=[.int i,.int j]/\Q (.int (if j<i then j else i)) H):=by
 intro ah s σ H xs us Q I r h;obtain⟨i,j,rfl,q⟩:=h;obtain⟨u,w',rfl,⟨t,rfl⟩,⟨t',rfl⟩⟩:=afc r
 refine min_two_ints (I.ok.hd hc) λh' tk k=>⟨_,H,I.gH k,?_,q⟩
 by_cases hj:j<i
 ·rw[if_pos hj,if_pos hj];exact⟨_,rfl⟩
 ·rw[if_neg hj,if_neg hj];exact⟨_,rfl⟩
structure C2 (h:Heap) (x dx C:Addr) (mA:Str->Option Value):Prop where
 lG:h.get? x=some (PySem.W.instObj C dx)
 ns:h.Ns1 dx mA
 ne:dx≠x
theorem pD {h:Heap}{dx:Addr}{mA:Str->Option Value}(n:h.Ns1 dx mA):∃od,h.get? dx=some od/\∀name,PySem.W.lookIn name od=some (mA name):=by
 obtain⟨o,es,ep,ho,hd,hk,_,hm⟩:=n;refine⟨o,ho,λname=>?_⟩
 have e:=hm name;unfold nsFind findBy at e;rw[<-Array.find?_toList] at e;unfold PySem.W.lookIn;rw[hd];dsimp only;split
 ·rename_i y q
  rw[q] at e;exact congrArg some e
 ·rename_i q
  rw[q] at e;have a:es.toList.any (·.refKey)=false:=by
   rw[List.any_eq_false];intro y hy;obtain⟨z,t,Kc⟩:=hk y (Array.mem_toList_iff.mp hy)
   simp[DictEntry.refKey,Kc]
  have a':¬ es.toList.any (·.refKey)=true:=by rw[a];exact zak
  rw[if_neg a'];exact congrArg some e
theorem C2.YA (I:C2 h x dx C mA):∃od,PySem.W.InstAt h x (PySem.W.instObj C dx) C (some od)/\∀name,PySem.W.lookIn name od=some (mA name):=
 let ⟨od,ho,hl⟩:=pD I.ns
 ⟨od,⟨I.lG,rfl,rfl,ho⟩,hl⟩
section
variable {prog:Program}{w:World}{A:Around}{E:Value->Shared->Prop}{s:Shared}{K:PySem.W.Frag}{x dx C f:Addr}{mA:Str->Option Value}{name:Str}{v:Value}
theorem PX (X:K.In s.heap)(I:C2 s.heap x dx C mA)(hg:PySem.W.plainGet K C name=true)(hh:PySem.W.hasDictIn K C=true)
  (ha:PySem.W.findIn K (.ref C) name=some none) (hv:mA name=some v) (hv':PySem.W.handedIn v=true) (h:Q v {s with toks:=s.toks+1}):
  wpAny (model prog w) A (getAttr (.ref x) name Kd) Q E s:=by
 obtain⟨od,J,hl⟩:=I.YA;exact PySem.W.get_value X J (zcW hg).1 (PySem.W.findObj_own hh ha rfl (by rw[hl,hv])) hv' h
theorem Ke (X:K.In s.heap)(I:C2 s.heap x dx C mA)(hg:PySem.W.plainGet K C name=true)
  (hf:PySem.W.findIn K (.ref C) name=some (some (.ref f))) (ht:PySem.W.isFn K (.ref f)=true) (hv:mA name=none) (h:Q (.ref f,[.ref x]) s):
  wpAny (model prog w) A (getMethod (.ref x) name pl) Q E s:=by
 obtain⟨od,J,hl⟩:=I.YA;exact PySem.W.method_fn X J (zcW hg).1 (zcW hg).2 hf (beq_iff_eq.mp ht) (by show (PySem.W.lookIn name od).map (·.isSome)=some false;rw[hl,hv];rfl) h
theorem PY (X:K.In s.heap)(I:C2 s.heap x dx C mA)
  (hs:PySem.W.findIn K (.ref C) "__setattr__"=some (some (.builtin "object.__setattr__"))) (hp:PySem.W.plainOver K C=true) (ht:PySem.W.takerIn K C name=some none) (hh:PySem.W.hasDictIn K C=true)
  (hw:PySem.Within mA ns) (hsz:ns.length<=sizeLine)
  (h:∀h',C2 h' x dx C (λy=>if y=name then some v else mA y)->Heap.SameBut dx s.heap h'->Q () {s with heap:=h',toks:=s.toks+2}):
  wpAny (model prog w) A (setAttr (.ref x) name v) Q E s:=by
 obtain⟨od,J,hl⟩:=I.YA;refine zeF X J hs (PySem.W.osa_open (s:={s with toks:=s.toks+1}) (r:=none) X J hp ht λb=>?_)
 obtain⟨cd,hc,Uc⟩:=PySem.W.any_some hh;have hx:s.heap.get? x=some ⟨.ref C,some dx,.plain,#[]⟩:=I.lG
 refine zaa (zag (zaa (zaa (zdW hx (zaa (zbx (s:={s with toks:=s.toks+1}) (zco X hc) ?_))))))
 rw[Uc];refine zag (a:=some dx) (zaa (zag (zaa ?_)))
 refine wpAny_nsSet1 (s:={s with toks:=s.toks+1}) I.ns λh' JG hs2=>?_
 obtain⟨oD,esD,epD,Ug,hdD,hcD⟩:=JG.count (PySem.Within.cons name v hw)
 refine zaa (zdz Ug (by rw[hdD];exact zdA (zai hcD (by rw[zaD];omega))) ?_)
 exact zag (h _ ⟨(hs2.2 _ (zbd I.ne)).trans I.lG,JG,I.ne⟩ hs2)
theorem Kf (X:K.In s.heap)(hm:PySem.W.makesIn K C=true)
  (hi:PySem.W.findIn K (.ref C) "__init__"=some (some (.ref f))) (hf:PySem.W.typeIn K (.ref f)=some (.type "function"))
  (h:codeAny (model prog w) (A.under (.builtin "type.__call__" ⟨.ref C::vs,kw⟩)) (.call (.ref f) ⟨.ref (s.heap.objs.size+1)::vs,kw⟩) (PySem.W.InitBack (s.heap.objs.size+1) R)
   {s with heap:=(s.heap.push PySem.W.emptyDict).push (PySem.W.instObj C s.heap.objs.size)}):
  codeAny (model prog w) A (.call (.ref C) ⟨vs,kw⟩) R s:=by
 obtain⟨hh,g,d,t,os⟩:=s;exact PySem.W.make_core (PySem.W.makes_of X hm) (zbQ X hi) (λself=>PySem.W.bind_fn X self hf) (.inl rfl) h
end
noncomputable def gn (f:Str)(v:V):List (Str×V)->List (Str×V)
 |[]=>[(f,v)]
 | (g,x)::r=>if g=f then (g,v)::r else (g,x)::gn f v r
theorem lN (f g:Str)(v:V):∀fs:List (Str×V),(gn f v fs).lookup g=if g=f then some v else fs.lookup g
 |[]=>by
  show List.lookup g [(f,v)]=_
  by_cases h:g=f
  ·have hb:(g == f)=true:=beq_iff_eq.mpr h
   simp only[List.lookup,hb,if_pos h]
  ·have hb:(g == f)=false:=beq_eq_false_iff_ne.mpr h
   simp only[List.lookup,hb,if_neg h]
 | (k,x)::r=>by
  have ih:=lN f g v r;rw[show gn f v ((k,x)::r)=(if k=f then (k,v)::r else (k,x)::gn f v r) from rfl];by_cases hk:k=f
  ·rw[if_pos hk]
   by_cases h:g=k
   ·have hb:(g == k)=true:=beq_iff_eq.mpr h
    simp only[List.lookup,hb,if_pos (h.trans hk)]
   ·have hb:(g == k)=false:=beq_eq_false_iff_ne.mpr h
    simp only[List.lookup,hb,if_neg (λe:g=f=>h (e.trans hk.symm))]
  ·rw[if_neg hk]
   by_cases h:g=k
   ·have hb:(g == k)=true:=beq_iff_eq.mpr h
    simp only[List.lookup,hb,if_neg (λe:g=f=>hk (h.symm.trans e))]
   ·have hb:(g == k)=false:=beq_eq_false_iff_ne.mpr h
    simp only[List.lookup,hb];exact ih
theorem jE (f:Str)(v:V):∀fs:List (Str×V),f∈(gn f v fs).map (·.1)/\∀g,g∈fs.map (·.1)->g∈(gn f v fs).map (·.1)
 |[]=>⟨by simp[gn],λg h=>by simp at h⟩
 | (k,x)::r=>by
  obtain⟨i1,i2⟩:=jE f v r;rw[show gn f v ((k,x)::r)=(if k=f then (k,v)::r else (k,x)::gn f v r) from rfl];by_cases hk:k=f
  ·rw[if_pos hk]
   subst hk;exact⟨by simp,λg h=>by simpa using h⟩
  ·rw[if_neg hk]
   refine⟨?_,λg h=>?_⟩
   ·rw[zas]
    exact zaM _ i1
   ·rw[zas] at h ⊢
    rcases zao.mp h with e|e
    ·exact zao.mpr (.inl e)
    ·exact zaM _ (i2 g e)
theorem qp (f:Str)(v:V):∀fs:List (Str×V),(gn f v fs).length<=fs.length+1
 |[]=>by simp[gn]
 | (k,x)::r=>by
  have ih:=qp f v r;rw[show gn f v ((k,x)::r)=(if k=f then (k,v)::r else (k,x)::gn f v r) from rfl];by_cases hk:k=f
  ·rw[if_pos hk,zaD,zaD];omega
  ·rw[if_neg hk,zaD,zaD];omega
theorem iz.q8 (r:iz (some v) o):∃u,o=some u/\bI v u:=by
 cases o with
 |none=>exact (show False from r).elim
 |some u=>exact⟨u,rfl,r⟩
theorem iz.PZ (r:iz none o):o=none:=by
 cases o with
 |none=>rfl
 |some u=>exact (show False from r).elim
theorem v_ (r:bI v u):PySem.W.handedIn u=true:=by
 cases v with
 |bu=>cases (show u=Value.none from r);rfl
 |bl b=>cases (show u=Value.bool b from r);rfl
 |int i=>obtain⟨t,e⟩:=(show ∃t,u=Value.int i t from r);cases e;rfl
 |str x=>obtain⟨t,e⟩:=(show ∃t,u=Value.str x t from r);cases e;rfl
 |JF b=>obtain⟨t,e⟩:=(show ∃t,u=Value.bytes b t from r);cases e;rfl
 |flt b=>obtain⟨t,e⟩:=(show ∃t,u=Value.float b t from r);cases e;rfl
 |ref a=>cases (show u=Value.ref a from r);rfl
 |ty n=>cases (show u=Value.type n from r);rfl
theorem yy (cA:mD P w H h)(e:H a=some (.d_ C dx fs)):∃mA,C2 h a dx C mA/\(∀f,iz (fs.lookup f) (mA f))/\PySem.Within mA (fs.map (·.1))/\fs.length<=1000/\H dx=some (.rO a):=by
 obtain⟨d,z,ne,ob,mA,n,r,q⟩:=(show cJ P w H h a (.d_ C dx fs) from cA a _ e)
 exact⟨mA,⟨ob,n,ne⟩,r,q,z,d⟩
structure vE (K:PySem.W.Frag) (C:Addr):Prop where
 pg:PySem.W.plainGet K C Str.empty=true
 hd:PySem.W.hasDictIn K C=true
 po:PySem.W.plainOver K C=true
 sa:PySem.W.findIn K (.ref C) "__setattr__"=some (some (.builtin "object.__setattr__"))
theorem vE.get {K:PySem.W.Frag}{C:Addr}(c:vE K C)(f:Str):PySem.W.plainGet K C f=true:=c.pg
noncomputable def bV (K:PySem.W.Frag)(C:Addr)(f:Str):Prop:=PySem.W.findIn K (.ref C) f=some none
theorem bV.afh {K:PySem.W.Frag}{C:Addr}{f:Str}(n:bV K C f):PySem.W.takerIn K C f=some none:=by
 unfold PySem.W.takerIn;rw[show PySem.W.findIn K (.ref C) f=some none from n];rfl
structure cI (K:PySem.W.Frag) (C:Addr) (m:Str) (f:Addr):Prop where
 qO:PySem.W.findIn K (.ref C) m=some (some (.ref f))
 fn:PySem.W.isFn K (.ref f)=true
 kp:PySem.W.keepIn K (.ref f)=true
theorem r_ (I:aL X ah σ H s)(e:H a=some (.d_ C dx fs))(c:vE X.K C)(n:bV X.K C f)(l:fs.lookup f=some v)
  (h:∀u s',aL X ah σ H s'->bI v u->Q u s'):wpAny (model X.prog X.w) A (getAttr (.ref a) f b) Q E s:=by
 obtain⟨mA,O,r,_,_,_⟩:=yy I.cA e;obtain⟨u,hu,ru⟩:=iz.q8 (v:=v) (o:=mA f) (by rw[<-l];exact r f)
 exact PX I.nY O (c.get f) c.hd n hu (v_ ru) (h u _ (I.nZ _) ru)
theorem nB (I:aL X ah σ H s)(e:H a=some (.d_ C dx fs))(c:vE X.K C)(k:cI X.K C m g)(l:fs.lookup m=none)
  (h:Q (.ref g,[.ref a]) s):wpAny (model X.prog X.w) A (getMethod (.ref a) m pl) Q E s:=by
 obtain⟨mA,O,r,_,_,_⟩:=yy I.cA e;have hn:mA m=none:=iz.PZ (by rw[<-l];exact r m)
 exact Ke I.nY O (c.get m) k.qO k.fn hn h
theorem se (I:aL X ah σ H s)(e:H a=some (.d_ C dx fs))(c:vE X.K C)(n:bV X.K C f)(hl:fs.length<1000)(ry:bI y u)
  (h:∀s',aL X ah σ (bF H a (.d_ C dx (gn f y fs))) s'->Q () s'):wpAny (model X.prog X.w) A (setAttr (.ref a) f u) Q E s:=by
 obtain⟨mA,O,r,wi,_,ho⟩:=yy I.cA e;have hz:(fs.map (·.1)).length<=sizeLine:=by rw[zac,zdP];omega
 refine PY I.nY O c.sa c.po n.afh c.hd wi hz λh' O' sb=>h _ ?_
 have hd:∃o,h'.get? dx=some o:=let ⟨o,_,_,e',_⟩:=O'.ns;⟨o,e'⟩
 refine I.jf (x:=a) (e:=dx) (by rw[e];exact True.intro) (.inr ho) (λb q hb z=>(sb.2 b hb).trans z) hd ?_
 refine⟨by rw[au O.ne];exact ho,?_,O.ne,O'.lG,_,O'.ns,λg=>?_,λg hg=>?_⟩
 ·have:=qp f y fs;omega
 ·show iz ((gn f y fs).lookup g) (if g=f then some u else mA g)
  rw[lN];by_cases q:g=f
  ·rw[if_pos q,if_pos q];exact ry
  ·rw[if_neg q,if_neg q];exact r g
 ·by_cases q:g=f
  ·rw[q];exact (jE f y fs).1
  ·refine (jE f y fs).2 g (wi g λz=>hg ?_)
   show (if g=f then some u else mA g)=none
   rw[if_neg q];exact z
theorem aL.made (I:aL X ah σ H s):aL X ah σ (bF (bF H s.heap.objs.size (.rO (s.heap.objs.size+1))) (s.heap.objs.size+1) (.d_ C s.heap.objs.size []))
  {s with heap:=(s.heap.push PySem.W.emptyDict).push (PySem.W.instObj C s.heap.objs.size)}:=by
 have e1:(s.heap.push PySem.W.emptyDict).get? s.heap.objs.size=some PySem.W.emptyDict:=zap s.heap rfl
 have e2:((s.heap.push PySem.W.emptyDict).push (PySem.W.instObj C s.heap.objs.size)).get? (s.heap.objs.size+1)=some (PySem.W.instObj C s.heap.objs.size):=by
  have:=zap (s.heap.push PySem.W.emptyDict) (o:=PySem.W.instObj C s.heap.objs.size) rfl
  rwa[zda] at this
 have e3:(s.heap.push PySem.W.emptyDict).Ns s.heap.objs.size (λ_=>none):=⟨PySem.W.emptyDict,#[],_,e1,rfl,(λe he=>absurd he (by simp)),λ_=>rfl⟩
 have I1:=I.jB (a:=s.heap.objs.size) (o:=.rO (s.heap.objs.size+1)) (h':=s.heap.push PySem.W.emptyDict) (t':=s.toks) (λb u q=>zad _ q) (zah _) ⟨_,e1⟩
 refine I1.jB (a:=s.heap.objs.size+1) (o:=.d_ C s.heap.objs.size []) (t':=s.toks) (λb u q=>zad _ q) (Nat.le_of_eq (zda _ _)) ?_
 have ne:s.heap.objs.size≠s.heap.objs.size+1:=zar (zbj _)
 refine⟨by rw[au ne,az],zcF _,ne,e2,λ_=>none,(Heap.Ns1.of_empty e3).at λo q=>zad _ q,λ_=>True.intro,λy hy=>absurd rfl hy⟩
theorem E1 (hb:attributeBase e f env (eval e env)=eval e env)
  (h:wpAny (model prog w) A (eval e env) (λo cF=>wpAny (model prog w) A (getAttr o f true) Q E cF) E s):wpAny (model prog w) A (eval (.Attribute e f pos) env) Q E s:=
 Attribute_any_ h (by rw[arm_eval_Attribute,hb])
noncomputable def akx (K:PySem.W.Frag)(ta:TE)(f:Str):TE:=λσ H Q=>ta σ H λx H1=>∃a C dx fs v,x = .ref a/\H1 a=some (.d_ C dx fs)/\vE K C/\bV K C f/\fs.lookup f=some v/\Q v H1
noncomputable def aky (K:PySem.W.Frag)(ta tv:TE)(f:Str):TS:=λD σ H=>tv σ H λy H1=>ta σ H1 λx H2=>∃a C dx fs,x = .ref a/\H2 a=some (.d_ C dx fs)/\vE K C/\bV K C f/\fs.length<1000 /\
 D.nx σ (bF H2 a (.d_ C dx (gn f y fs)))
noncomputable def P0 (X:Cx)(op:Operator)(rd:V->V->Hp->VK->Prop):Prop:=
 ∀(ah:List (Addr×Obj)) (s:Shared) (σ:St) (H:Hp) (x y:V) (u v:Value) (Q:VK),aL X ah σ H s->bI x u->bI y v->rd x y H Q->wpAny (model X.prog X.w) X.A (inplaceOp op u v) (EP X ah σ Q) X.xe s
noncomputable def P1 (K:PySem.W.Frag)(ta tv:TE)(rd:V->V->Hp->VK->Prop)(f:Str):TS:=λD σ H=>ta σ H λx H1=>∃a C dx fs v,x = .ref a/\H1 a=some (.d_ C dx fs)/\vE K C/\bV K C f/\fs.lookup f=some v /\
 tv σ H1 λy H2=>rd v y H2 λz H3=>∃dx' JH,H3 a=some (.d_ C dx' JH)/\JH.length<1000/\D.nx σ (bF H3 a (.d_ C dx' (gn f z JH)))
theorem YB (he:PE X e ta)(hb:attributeBase e f X.env (eval e X.env)=eval e X.env):PE X (.Attribute e f pos) (akx X.K ta f):=by
 intro ah s σ H Q I h;refine E1 hb (cH (he ah s σ H _ I h) λu s1 ⟨x,H1,I1,rx,a,C,dx,fs,v,ex,ea,c,n,l,q⟩=>?_)
 subst ex;obtain rfl:u=Value.ref a:=rx
 exact r_ I1 ea c n l λu' s2 I2 ru=>⟨v,H1,I2,ru,q⟩
theorem YC (ha:PE X o ta)(hv:PE X value tv)(hs:swapsWith value (some (.Attribute o f jD)) pos.line X.env=pure false):PS X (.Assign [.Attribute o f jD] value pos) (aky X.K ta tv f):=by
 intro ah s σ H D I h;refine zbX (cH (hv ah s σ H _ I h) λu s1 ⟨y,H1,I1,ry,q⟩=>cH (ha ah s1 σ H1 _ I1 q) λov s2 ⟨x,H2,I2,rx,a,C,dx,fs,ex,ea,c,n,l,q2⟩=>?_) hs
 subst ex;obtain rfl:ov=Value.ref a:=rx
 exact se I2 ea c n l ry λs3 I3=>⟨σ,_,I3,q2⟩
theorem Hz (ha:PE X o ta)(hv:PE X value tv)(hop:P0 X op rd):PS X (.AugAssign (.Attribute o f apd) op value pos) (P1 X.K ta tv rd f):=by
 intro ah s σ H D I h;refine wpAny_AugAssign_AttributeAny (cH (ha ah s σ H _ I h) λov s1 ⟨x,H1,I1,rx,a,C,dx,fs,v,ex,ea,c,n,l,q⟩=>?_)
 subst ex;obtain rfl:ov=Value.ref a:=rx
 refine r_ I1 ea c n l λu s2 I2 ru=>cH (hv ah s2 σ H1 _ I2 q) λw3 s3 ⟨y,H2,I3,ry,q3⟩=>cH (hop ah s3 σ H2 v y u w3 _ I3 ru ry q3) λw4 s4 ⟨z,H3,I4,rz,dx',JH,ea',l',q4⟩=>?_
 exact se I4 ea' c n l' rz λs5 I5=>⟨σ,_,I5,q4⟩
noncomputable def akA:V->V->Hp->VK->Prop:=λx y H Q=>∃i j,x = .int i/\y = .int j/\Q (.int (i+j)) H
theorem YD:P0 X .Add akA:=by
 rintro ah s σ H x y u v Q I rx ry ⟨i,j,rfl,rfl,q⟩
 obtain⟨t,rfl⟩:=(show ∃t,u=Value.int i t from rx)
 obtain⟨t',rfl⟩:=(show ∃t',v=Value.int j t' from ry)
 exact PyProof.Rows.iadd_int ⟨.int (i+j),H,I.nZ _,⟨_,rfl⟩,q⟩
section
variable {X:Cx}{ah:List (Addr×Obj)}{σ:St}{H:Hp}{s:Shared}{A:Around}{E:Value->Shared->Prop}{Q:Value->Shared->Prop}{c:Value}{b:Bool}
end
structure gE (k:Nat) (A:Around):Prop where
 hd:A.handled=none
 dp:A.depth+3 * k+5<recursionLimit
 un:A.units+16 * k+200<cLine
theorem gE.mono (r:gE k A)(h:j<=k):gE j A:=⟨r.hd,by have:=r.dp;omega,by have:=r.un;omega⟩
theorem gE.deeper (r:gE (k+1) A)(env:Env):gE k (A.deeper env):=
 ⟨r.hd,by have:=r.dp;show A.depth+1+3 * k+5<_;omega,by have:=r.un;show A.units+3+16 * k+200<_;omega⟩
theorem C3 {A:Around}{C:Addr}{us:List Value}{kw:List (Str×Value)}:(A.under (.builtin "type.__call__" ⟨.ref C::us,kw⟩)).depth=A.depth+1:=by
 first|rfl|simp[Around.under,Code.weight,Code.isCreation,Code.isGuard,Code.isCaller,Code.frames,Code.isFrame,afi]
theorem C4 {A:Around}{C:Addr}{us:List Value}{kw:List (Str×Value)}:(A.under (.builtin "type.__call__" ⟨.ref C::us,kw⟩)).units=A.units+1:=by
 first|rfl|simp[Around.under,Code.cUnits,Code.frames,Code.isFrame]
theorem gE.Kg (r:gE (k+1) A)(C:Addr)(us:List Value)(kw:List (Str×Value)):gE k (A.under (.builtin "type.__call__" ⟨.ref C::us,kw⟩)):=
 ⟨r.hd,by have:=r.dp;rw[C3];omega,by have:=r.un;rw[C4];omega⟩
theorem gE.depth (r:gE k A):A.depth<recursionLimit:=by have:=r.dp;omega
noncomputable def afj:TA:=λ_ H Q=>Q [] H
noncomputable def afk (ta:TE)(tr:TA):TA:=λσ H Q=>ta σ H λx H1=>tr σ H1 λxs H2=>Q (x::xs) H2
theorem Kh:PA X [] afj:=λ_ _ _ _ H Q I h=>Calls.spliced_nil ⟨[],H,I,.nil,h⟩
theorem yz (ha:PE X e te)(hr:PA X es t)(hs:autoParam (starEach (e::es) X.env=(false,eval e X.env)::starEach es X.env) zp_0):PA X (e::es) (afk te t):=by
 intro pos ah s σ H Q I h;rw[hs];show wpAny _ _ (spliced ((false,eval e X.env)::backTo pos (starEach es X.env))) _ _ s
 refine zdf (cH (ha ah s σ H _ I h) λu s1 ⟨x,H1,I1,r1,q1⟩=>?_)
 exact cH (hr pos ah s1 σ H1 _ I1 q1) λus s2 ⟨xs,H2,I2,r2,q2⟩=>⟨x::xs,H2,I2,.cons r1 r2,q2⟩
noncomputable def akB (t:TA):TE:=λσ H Q=>t σ H λxs H1=>xs.length<=sizeLine/\∀p,H1 p=none->Q (.ref p) (bF H1 p (.gS xs))
noncomputable def akC (t:TA):TE:=λσ H Q=>t σ H λxs H1=>xs.length<=sizeLine/\∀p,H1 p=none->Q (.ref p) (bF H1 p (.bM xs))
theorem YE {x1}(h:PA X es t):PE X (.Tuple es x1 pos) (akB t):=by
 intro ah s σ H Q I hq;refine wpAny_Tuple_spliced (cH (h pos ah s σ H _ I hq) λus s1 ⟨xs,H1,I1,r,z,q⟩=>⟨by rw[<-r.length];exact z,?_⟩)
 have hf:H1 s1.heap.objs.size=none:=I1.cA.fresh (zah _)
 refine⟨.ref s1.heap.objs.size,bF H1 s1.heap.objs.size (.gS xs),I1.jB (t':=s1.toks) (λb u e=>zad _ e) (zah _) ?_,rfl,q _ hf⟩
 exact⟨z,us,r,⟨_,zap _ rfl,rfl,_,rfl⟩⟩
theorem Kl (h:PA X es t):PE X (.List es pos) (akC t):=by
 intro ah s σ H Q I hq;refine wpAny_List_spliced (cH (h pos ah s σ H _ I hq) λus s1 ⟨xs,H1,I1,r,z,q⟩=>⟨by rw[<-r.length];exact z,?_⟩)
 have hf:H1 s1.heap.objs.size=none:=I1.cA.fresh (zah _)
 refine⟨.ref s1.heap.objs.size,bF H1 s1.heap.objs.size (.bM xs),I1.jB (t':=s1.toks) (λb u e=>zad _ e) (zah _) ?_,rfl,q _ hf⟩
 exact⟨z,us,0,r,zap _ rfl⟩
noncomputable abbrev Sp:=List V->Hp->VK->XK->Prop
noncomputable abbrev CA:=List Env->Hp->Shared->XK->Value->Shared->Prop
structure C5 (P:Program) (w:World) (K:PySem.W.Frag) (mg:Str->Option Value) (base:Heap) (A:Around) (outer:List Env) (s:Shared) (H:Hp):Prop where
 frames:A.frames=some outer
 rS:Mod K mg base
 bs:∀b o,base.get? b=some o->s.heap.get? b=some o/\H b=none
 O_:base.objs.size<=s.heap.objs.size
 ly:s.heap.FunFrames base outer
 JV:∀b∈qZ outer,H b=none
 cA:mD P w H s.heap
 g7:AllBare s.gens
noncomputable def CE (outer:List Env)(P:Program)(w:World)(H:Hp)(s:Shared)(Q:VK)(u:Value)(s':Shared):Prop:=
 ∃v H',s'.os=s.os/\AllBare s'.gens/\Un (qZ outer) [] H H' s.heap s'.heap/\mD P w H' s'.heap/\bI v u/\Q v H'
noncomputable def CR (CX:CA)(outer:List Env)(P:Program)(w:World)(H:Hp)(s:Shared)(Q:VK)(E:XK)(r:Result)(s':Shared):Prop:=
 match r with
 |.ok (.ret u)=>CE outer P w H s Q u s'
 |.ok _=>False
 |.error e=>CX outer H s E e s'
structure aN (P:Program) (w:World) (K:PySem.W.Frag) (mg:Str->Option Value) (base:Heap) (CX:CA) (k:Nat) (f:Addr) (fd:FuncData) (ps:List Str) (sp:Sp):Prop where
 len:∀vs H Q E,sp vs H Q E->vs.length=ps.length
 jW:∀(A:Around) (outer:List Env) (s:Shared) (H:Hp) (args:Args) (us:List Value) (vs:List V) (Q:VK) (E:XK),gE k A->C5 P w K mg base A outer s H->BindsTo s fd args (ps.zip us)->bN vs us->sp vs H Q E ->
  codeAny (model P w) A (.call (.ref f) args) (CR CX outer P w H s Q E) s
theorem aN.imp {P:Program}{w:World}{K:PySem.W.Frag}{mg:Str->Option Value}{base:Heap}{CX:CA}{k:Nat}{f:Addr}{fd:FuncData}{ps:List Str}{sp sp':Sp}(F:aN P w K mg base CX k f fd ps sp)
  (h:∀vs H Q E,sp' vs H Q E->sp vs H Q E):aN P w K mg base CX k f fd ps sp':=
 ⟨λvs H Q E q=>F.len vs H Q E (h _ _ _ _ q),λA outer s H args us vs Q E hr he hb hv hs=>F.jW A outer s H args us vs Q E hr he hb hv (h _ _ _ _ hs)⟩
theorem C5.Kg {P:Program}{w:World}{K:PySem.W.Frag}{mg:Str->Option Value}{base:Heap}{A:Around}{outer:List Env}{s:Shared}{H:Hp}(e:C5 P w K mg base A outer s H)(C:Addr)(us:List Value)(kw:List (Str×Value)):
  C5 P w K mg base (A.under (.builtin "type.__call__" ⟨.ref C::us,kw⟩)) outer s H:=⟨by first|exact e.frames | (simpa[Around.under,Code.envs,Code.isFrame,afl] using e.frames),e.rS,e.bs,e.O_,e.ly,e.JV,e.cA,e.g7⟩
theorem aL.An (I:aL X ah σ H s):C5 X.prog X.w X.K X.mg X.base X.A X.c8 s H:=
 ⟨I.ok.frames,I.ok.rS,I.bs,zai I.ok.O_ I.sz,I.c8,I.ER,I.cA,I.g7⟩
theorem aL.after (I:aL X ah σ H s)(h:CE X.c8 X.prog X.w H s Q u s'):EP X ah σ Q u s':=by
 obtain⟨v,H',os,g7,un,cA,r,q⟩:=h;obtain⟨hh,g,d,t,os'⟩:=s';obtain rfl:os'=s.os:=os
 exact⟨v,H',I.call (h':=hh) (g':=g) (d':=d) (t':=t) (ch:=[]) un cA g7 (λb z=>absurd z (by simp)),r,q⟩
noncomputable def Uh (sp:Sp)(mG:List V)(E:XK)(t:TA):TE:=λσ H Q=>t σ H λvs H1=>sp (vs++mG) H1 Q E
noncomputable def E2 (C:Addr)(m:Str)(sp:Sp)(mG:List V)(E:XK)(ta:TE)(t:TA):TE:=λσ H Q=>ta σ H λx H1=>∃a dx fs,x = .ref a/\H1 a=some (.d_ C dx fs)/\fs.lookup m=none /\
 t σ H1 λvs H2=>sp (x::(vs++mG)) H2 Q E
noncomputable def Ui (C:Addr)(sp:Sp)(mG:List V)(E:XK)(t:TA):TE:=λσ H Q=>t σ H λvs H1=>∀x dx,H1 x=none->H1 dx=none->dx≠x ->
 sp (.ref x::(vs++mG)) (bF (bF H1 dx (.rO x)) x (.d_ C dx [])) (λv H2=>v = .bu/\Q (.ref x) H2) E
noncomputable def eB (K:PySem.W.Frag)(fd:FuncData)(ps:List Str)(ds:List Value):Prop:=
 ∀(s:Shared) (us:List Value),K.In s.heap->(us++ds).length=ps.length->BindsTo s fd ⟨us,[]⟩ (ps.zip (us++ds))
theorem eB.all {K:PySem.W.Frag}{fd:FuncData}{ps:List Str}(h:∀us:List Value,us.length=ps.length->bindArgs fd ⟨us,[]⟩=pure (ps.zip us)):eB K fd ps []:=λs us _ hl=>by
 rw[zaz] at hl ⊢
 exact .of_eq (h us hl)
noncomputable def gb (CX:CA)(X:Cx)(E:XK):Prop:=∀(ah:List (Addr×Obj)) (σ:St) (H:Hp) (s:Shared) (e:Value) (s':Shared),aL X ah σ H s->CX X.c8 H s E e s'->X.xe e s'
section
variable {X:Cx}{CX:CA}{k:Nat}{f C:Addr}{fd:FuncData}{ps:List Str}{sp:Sp}{mG:List V}{ds:List Value}{E:XK}{x m:Str}{p pos fN:Pos}{e o:Expr}{es:List Expr}{ta:TE}{t:TA}
theorem C6 (F:aN X.prog X.w X.K X.mg X.base CX k f fd ps sp)(hr:gE k X.A)(hb:eB X.K fd ps ds)(hd:bN mG ds)(hx:gb CX X E)
  (I:aL X ah σ H s) (r:bN vs us) (h:sp (vs++mG) H Q E):wpAny (model X.prog X.w) X.A (call (.ref f) us) (EP X ah σ Q) X.xe s:=by
 have r2:bN (vs++mG) (us++ds):=r.lJ hd
 have hl:(us++ds).length=ps.length:=by rw[<-r2.length];exact F.len _ _ _ _ h
 refine zcC (zcv (F.jW X.A X.c8 s H ⟨us,[]⟩ (us++ds) (vs++mG) Q E hr I.An (hb s us I.nY hl) r2 h) λr s' hq=>?_)
 cases r with
 |error e=>exact hx ah σ H s e s' I hq
 |ok fl =>
  cases fl with
  |ret u=>exact I.after hq
  |next=>exact False.elim hq
  |brk=>exact False.elim hq
  |cont=>exact False.elim hq
theorem P4 (F:aN X.prog X.w X.K X.mg X.base CX k f fd ps sp)(hr:gE k X.A)(hg:Gl X x)(hm:X.mg x=some (.ref f))(hk:PySem.W.keepIn X.K (.ref f)=true)(hb:eB X.K fd ps ds)(hd:bN mG ds)(hx:gb CX X E)
  (ha:PA X (e::es) t) (sf:autoParam ((x == ("__debug__" : Str))=false) zp_1) (he:autoParam (starEach (e::es) X.env=(false,eval e X.env)::starEach es X.env) zp_0) (iA:autoParam ((backTo pos (starEach es X.env)).any (·.1)=false) zp_0):
  PE X (.Call (.Name x p) (e::es) [] pos) (Uh sp mG E t):=by
 intro ah s σ H Q I h;refine zca (mE I hg hm ?_ sf)
 refine zcw (h₀:= X.base) I.ok.rS.XZ hk (cH (ha pos ah s σ H _ I h) λus s1 ⟨vs,H1,I1,r,q⟩=>⟨I1.nY,?_⟩) he iA
 exact C6 F hr hb hd hx I1 r q
theorem P5 (he:PE X o ta)(c:vE X.K C)(hm:cI X.K C m f)(F:aN X.prog X.w X.K X.mg X.base CX k f fd ps sp)(hr:gE k X.A)(hb:eB X.K fd ps ds)(hd:bN mG ds)(hx:gb CX X E)(ha:PA X (e::es) t)
  (qm:autoParam (starEach (e::es) X.env=(false,eval e X.env)::starEach es X.env) zp_0) (iA:autoParam ((backTo pos (starEach es X.env)).any (·.1)=false) zp_0)
  (ht:autoParam (eval (.Call (.Attribute o m fN) (e::es) [] pos) X.env=(do
   let ov <-eval o X.env
   standAt fN.atName
   let (f,first) <-holding [ov] (getMethod ov m pl)
   callWith pos f first (backTo pos (starEach (e::es) X.env)) (backToKw pos (keywordEach [] X.env)))) zp_0):
  PE X (.Call (.Attribute o m fN) (e::es) [] pos) (E2 C m sp mG E ta t):=by
 intro ah s σ H Q I h;refine zcL (pl:=pl) (cH (he ah s σ H _ I h) λu s1 ⟨x,H1,I1,rx,a,dx,fs,ex,ea,l,q⟩=>?_) ht
 subst ex;obtain rfl:u=Value.ref a:=rx
 refine nB I1 ea c hm l ?_
 refine zcw (first:=[.ref a]) (h₀:= X.base) I.ok.rS.XZ hm.kp (cH (ha pos ah s1 σ H1 _ I1 q) λus s2 ⟨vs,H2,I2,r,q2⟩=>⟨I2.nY,?_⟩) qm iA
 exact C6 (us:=.ref a::us) (vs:=.ref a::vs) F hr hb hd hx I2 (.cons rfl r) q2
theorem Km (he:PE X o ta)(c:vE X.K C)(hm:cI X.K C m f)(F:aN X.prog X.w X.K X.mg X.base CX k f fd ps sp)(hr:gE k X.A)(hb:eB X.K fd ps ds)(hd:bN mG ds)(hx:gb CX X E)
  (ht:autoParam (eval (.Call (.Attribute o m fN) [] [] pos) X.env=(do
   let ov <-eval o X.env
   standAt fN.atName
   let (f,first) <-holding [ov] (getMethod ov m pl)
   callWith pos f first (backTo pos (starEach [] X.env)) (backToKw pos (keywordEach [] X.env)))) zp_0):
  PE X (.Call (.Attribute o m fN) [] [] pos) (E2 C m sp mG E ta afj):=by
 intro ah s σ H Q I h;refine zcL (pl:=pl) (cH (he ah s σ H _ I h) λu s1 ⟨x,H1,I1,rx,a,dx,fs,ex,ea,l,q⟩=>?_) ht
 subst ex;obtain rfl:u=Value.ref a:=rx
 refine nB I1 ea c hm l ?_
 exact PySem.W.callWith_K0 (first:=[.ref a]) I1.nY hm.kp (C6 (us:=[.ref a]) (vs:=[.ref a]) F hr hb hd hx I1 (.cons rfl .nil) q)
structure Mk (K:PySem.W.Frag) (C f:Addr):Prop where
 afm:PySem.W.makesIn K C=true
 init:PySem.W.findIn K (.ref C) "__init__"=some (some (.ref f))
 fn:PySem.W.isFn K (.ref f)=true
 kp:PySem.W.keepIn K (.ref C)=true
theorem Kn (M:Mk X.K C f)(F:aN X.prog X.w X.K X.mg X.base CX k f fd ps sp)(hr:gE (k+1) X.A)(hb:eB X.K fd ps ds)(hd:bN mG ds)
  (hx:gb CX X E) (I:aL X ah σ H s) (r:bN vs us)
  (h:∀x dx,H x=none->H dx=none->dx≠x->sp (.ref x::(vs++mG)) (bF (bF H dx (.rO x)) x (.d_ C dx [])) (λv H2=>v = .bu/\Q (.ref x) H2) E):
  wpAny (model X.prog X.w) X.A (call (.ref C) us) (EP X ah σ Q) X.xe s:=by
 have hq:=h (s.heap.objs.size+1) s.heap.objs.size (I.cA.fresh (zbc _)) (I.cA.fresh (zah _)) (zar (zbj _))
 have I2:=aL.made (C:=C) I
 have r2:bN (V.ref (s.heap.objs.size+1)::(vs++mG)) (Value.ref (s.heap.objs.size+1)::(us++ds)):=.cons rfl (r.lJ hd)
 have hl:(Value.ref (s.heap.objs.size+1)::us++ds).length=ps.length:=by
  have e:=r2.length;rw[F.len _ _ _ _ hq] at e;exact e.symm
 refine zcC (Kf (f:=f) I.nY M.afm M.init (beq_iff_eq.mp M.fn) (zcv (F.jW _ X.c8 _ _ ⟨Value.ref (s.heap.objs.size+1)::us,[]⟩ (Value.ref (s.heap.objs.size+1)::(us++ds)) _ _ E (hr.Kg C us [])
  (I2.An.Kg C us []) (hb _ (Value.ref (s.heap.objs.size+1)::us) I2.nY hl) r2 hq) λr s' Ko=>?_))
 cases r with
 |error e=>exact hx ah σ _ _ e s' I2 Ko
 |ok fl =>
  cases fl with
  |ret u =>
   obtain⟨v,H',I3,rv,ev,q3⟩:=I2.after Ko;subst ev;exact⟨rv,⟨V.ref (s.heap.objs.size+1),H',I3,rfl,q3⟩⟩
  |next=>exact False.elim Ko
  |brk=>exact False.elim Ko
  |cont=>exact False.elim Ko
theorem P6 (M:Mk X.K C f)(F:aN X.prog X.w X.K X.mg X.base CX k f fd ps sp)(hr:gE (k+1) X.A)(hg:Gl X x)(hm:X.mg x=some (.ref C))(hb:eB X.K fd ps ds)(hd:bN mG ds)(hx:gb CX X E)
  (ha:PA X (e::es) t) (sf:autoParam ((x == ("__debug__" : Str))=false) zp_1) (he:autoParam (starEach (e::es) X.env=(false,eval e X.env)::starEach es X.env) zp_0) (iA:autoParam ((backTo pos (starEach es X.env)).any (·.1)=false) zp_0):
  PE X (.Call (.Name x p) (e::es) [] pos) (Ui C sp mG E t):=by
 intro ah s σ H Q I h;refine zca (mE I hg hm ?_ sf)
 refine zcw (h₀:= X.base) I.ok.rS.XZ M.kp (cH (ha pos ah s σ H _ I h) λus s1 ⟨vs,H1,I1,r,q⟩=>⟨I1.nY,?_⟩) he iA
 exact Kn M F hr hb hd hx I1 r q
end
section
variable {X:Cx}{CX:CA}{k:Nat}{f C:Addr}{fd:FuncData}{ps ks:List Str}{sp:Sp}{E:XK}{x m:Str}{p pos fN apf:Pos}{e o:Expr}{es:List Expr}{kws:List Keyword}{te ta:TE}{t tk:TA}{nm:Option Str}
end
structure aq (N P:List Str) (sc:Scope):Prop where
 kind:sc.kind = .function
 co:sc.isCoroutine=false
 gen:sc.isGenerator=false
 nd:N.Nodup
 pre:N.take P.length=P
 par:∀x∈P,sc.names.lookup x=some .local\/sc.names.lookup x=some .cell
 YF:∀y∈sc.names,y.2 ≠ .free
theorem wc {kindOf:Str->Option NameKind}{x:Str}:∀{qt:List (Str×Value)} {m:Str->Option Value},(∀v,(x,v)∉qt)->bindL kindOf qt m x=m x
 |[],_,_=>rfl
 | (n,v)::r,m,h=>by
  unfold bindL;rw[wc λw hw=>h w (zaM _ hw)]
  split
  ·have:x≠n:=by rintro rfl;exact h v zbK
   simp[this]
  ·rfl
theorem we {kindOf:Str->Option NameKind}{x:Str}:∀{qt:List (Str×Value)} {m:Str->Option Value},(∀v,(x,v)∉qt)->bindC kindOf qt m x=m x
 |[],_,_=>rfl
 | (n,v)::r,m,h=>by
  unfold bindC;rw[we λw hw=>h w (zaM _ hw)]
  split
  ·rfl
  ·have:x≠n:=by rintro rfl;exact h v zbK
   simp[this]
theorem wg {kindOf:Str->Option NameKind}{x:Str}{v:Value}:∀{P:List Str} {vs:List Value} {i:Nat} {m:Str->Option Value},P.Nodup->P[i]? = some x->vs[i]? = some v->kindOf x=some .local ->
  bindL kindOf (P.zip vs) m x=some v
 |[],_,_,_,_,h,_,_=>by simp at h
 |_::_,[],_,_,_,_,h,_=>by simp at h
 |p::P,w::vs,0,m,nd,h1,h2,hk=>by
  simp at h1 h2;subst h1;subst h2
  show bindL kindOf ((p,w)::P.zip vs) m p=_
  unfold bindL;rw[wc λv hv=>(zbz.mp nd).1 (zdJ hv).1,if_pos hk]
  simp
 |p::P,w::vs,i+1,m,nd,h1,h2,hk=>by
  show bindL kindOf ((p,w)::P.zip vs) m x=_
  unfold bindL;exact wg (i:=i) (zbz.mp nd).2 (by simpa using h1) (by simpa using h2) hk
theorem wj {kindOf:Str->Option NameKind}{x:Str}{v:Value}:∀{P:List Str} {vs:List Value} {i:Nat} {m:Str->Option Value},P.Nodup->P[i]? = some x->vs[i]? = some v->kindOf x≠some .local ->
  bindC kindOf (P.zip vs) m x=some v
 |[],_,_,_,_,h,_,_=>by simp at h
 |_::_,[],_,_,_,_,h,_=>by simp at h
 |p::P,w::vs,0,m,nd,h1,h2,hk=>by
  simp at h1 h2;subst h1;subst h2
  show bindC kindOf ((p,w)::P.zip vs) m p=_
  unfold bindC;rw[we λv hv=>(zbz.mp nd).1 (zdJ hv).1,if_neg hk]
  simp
 |p::P,w::vs,i+1,m,nd,h1,h2,hk=>by
  show bindC kindOf ((p,w)::P.zip vs) m x=_
  unfold bindC;exact wj (i:=i) (zbz.mp nd).2 (by simpa using h1) (by simpa using h2) hk
noncomputable def cS (N:List Str)(vs:List V):St:=vs.map some++List.replicate (N.length - vs.length) none
noncomputable def je (CX:CA)(P:Program)(w:World)(K:PySem.W.Frag)(mg:Str->Option Value)(base:Heap)(N:List Str)(b_:Str)(scope:Scope)(f:Addr)(cd:Value)(A:Around)(outer:List Env)(s:Shared)(H:Hp)(E:XK):Cx where
 prog:=P
 w:=w
 K:=K
 mg:=mg
 base:=base
 A:=A.deeper (envOfC b_ scope s.heap.objs.size f cd)
 N:=N
 s₀:= s
 H₀:= H
 env:=envOfC b_ scope s.heap.objs.size f cd
 outer:=outer
 c8:=envOfC b_ scope s.heap.objs.size f cd::outer
 ex:=[]
 fQ:=true
 fn:=λ_=>true
 pn:=[]
 xe:=λe s'=>wpAny (model P w) (A.deeper (envOfC b_ scope s.heap.objs.size f cd)) (leaving (envOfC b_ scope s.heap.objs.size f cd) e) (λ_ s''=>CX outer H s E e s'') (λe' s''=>CX outer H s E e' s'') s'
theorem Ao {sc:Scope}{n:Nat}{x:Str}(h:sc.names.lookup x=some .cell):∃c,(cellsFrom n sc.names []).lookup x=some c:=by
 have q:=zdQ sc.names n [] (.inl h)
 exact zbR.mp q
theorem HA {CX:CA}{P:Program}{w:World}{K:PySem.W.Frag}{mg:Str->Option Value}{base:Heap}{N ps:List Str}{b_:Str}{scope:Scope}{f:Addr}{cd:Value}{A:Around}{outer:List Env}{s s1:Shared}{H:Hp}{E:XK}{us:List Value}{vs:List V}
  (S:aq N ps scope) (hd:A.handled=none) (e0:C5 P w K mg base A outer s H) (hl:vs.length=ps.length) (r:bN vs us)
  (x:InCallC s s.heap.objs.size (bindL (envOfC b_ scope s.heap.objs.size f cd).kindOf (ps.zip us) λ_=>none) (cellsFrom (s.heap.objs.size+1) scope.names []) (bindC (envOfC b_ scope s.heap.objs.size f cd).kindOf (ps.zip us) λ_=>none) s1):
  aL (je CX P w K mg base N b_ scope f cd A outer s H E) [] (cS N vs) H s1:=by
 have iA:ps.length<=N.length:=by have:=congrArg List.length S.pre;rw[zaQ] at this;omega
 obtain⟨h1,tk,rfl,hk⟩:=x.done;have noA:∀b:Addr,b∉(je CX P w K mg base N b_ scope f cd A outer s H E).ex:=λb z=>absurd (show b∈([]:List Addr) from z) (by simp)
 refine⟨⟨e0.rS,S.kind,rfl,rfl,zah _,λy z c h1 h2=>?_,λy hy=>?_,λy c _ h=>?_,λ_=>hd,Around.frames_deeper e0.frames,.inr ⟨rfl,rfl⟩,λb z=>absurd z (noA b),e0.bs,e0.O_,λb _ _=>noA b,λb z=>absurd z (noA b),e0.ly,e0.JV⟩,
  rfl,e0.g7,Un.gH hk,⟨_,x.toInCall.ns,λi y v h1 h2 h3=>?_⟩,λy c h=>⟨_,x.cell y c h⟩,e0.cA.fresh (zah _),λy c h=>?_,λp hp=>absurd (show p∈([]:List (Addr×Obj)) from hp) (by simp),e0.cA.gH hk,?_⟩
 ·exact name_of_addr x.apart (zaZ h1) (zaZ h2)
 ·have hy:scope.names.lookup y=some .cell\/scope.names.lookup y=some .free:=hy
  rcases hy with hy|hy
  ·exact Ao hy
  ·exact absurd rfl (S.YF _ (zaZ hy))
 ·exact zdx (x.above y c (zaZ h))
 ·have hi:i<vs.length:=by
   unfold cS at h2;by_cases hi:i<vs.length
   ·exact hi
   ·rw[zat (by simpa using hi)] at h2
    rw[zcE] at h2;split at h2<;>cases h2
  have ha:vs[i]? = some v:=by
   unfold cS at h2;rw[zaj (by simpa using hi),zaq] at h2
   cases e:vs[i]? with
   |none=>rw[e] at h2;cases h2
   |some a=>rw[e] at h2;cases h2;rfl
  obtain⟨u,hu,rv⟩:=r.get ha;have hp:ps[i]? = some y:=by
   rw[<-S.pre,zbA (by omega)];exact h1
  have ndP:ps.Nodup:=by rw[<-S.pre];exact S.nd.sublist (List.take_sublist _ _)
  refine⟨u,rv,?_⟩
  rcases S.par y (zaY hp) with k|k
  ·exact .inl ⟨k,wg ndP hp hu k⟩
  ·obtain⟨c,e⟩:=Ao (n:=s.heap.objs.size+1) k
   refine .inr ⟨.inl k,c,e,?_⟩
   have q:=x.cell y c e;rw[wj ndP hp hu (by show scope.names.lookup y≠_;rw[k];decide)] at q
   exact q
 ·exact e0.cA.fresh (zdx (x.above y c (zaZ h)))
 ·unfold cS
  show _=N.length
  rw[zaf,zac,List.length_replicate];omega
theorem Kp {CX:CA}{P:Program}{w:World}{K:PySem.W.Frag}{mg:Str->Option Value}{base:Heap}{k:Nat}{f:Addr}{name b_:Str}{params:Arguments}{body:List Stmt}{scope:Scope}{dV kV nD pm eY ct oc:Value}{an od:Option Addr}
  {C7:Array (Option Value)} {N ps:List Str} {sp:Sp} (lk:K.lookup f=some ⟨oc,od,.func (PySem.W.fnOf name b_ params body scope dV kV nD pm an eY ct),C7⟩) (Aj:PySem.W.codeIn K eY b_=true) (S:aq N ps scope)
  (len:∀vs H Q E,sp vs H Q E->vs.length=ps.length)
  (sj:∀(A:Around) (outer:List Env) (s:Shared) (H:Hp) (vs:List V) (Q:VK) (E:XK),gE k (A.deeper (envOfC b_ scope s.heap.objs.size f eY))->sp vs H Q E ->
   ∃t,vY (je CX P w K mg base N b_ scope f eY A outer s H E) body t/\t {nx:=λ_ H'=>Q .bu H',rt:=Q} (cS N vs) H):
  aN P w K mg base CX (k+1) f (PySem.W.fnOf name b_ params body scope dV kV nD pm an eY ct) ps sp:=by
 refine⟨len,λA outer s H args us vs Q E hr e0 hb r JI=>?_⟩
 have hl:=len _ _ _ _ JI;have KX:K.In s.heap:=e0.rS.XZ.keeps λb o e=>(e0.bs b o e).1
 have lim:s.heap.NoLimit:=e0.rS.nolimit.keeps λb o e=>(e0.bs b o e).1
 have E3:∀y∈ps.zip us,scope.names.lookup y.1=some .local\/(scope.names.lookup y.1=some .cell/\((cellsFrom (s.heap.objs.size+1) scope.names []).lookup y.1).isSome=true):=λ⟨n,v⟩ hy=>by
  rcases S.par n (zdJ hy).1 with q|q
  ·exact .inl q
  ·exact .inr ⟨q,zdQ _ _ _ (.inl q)⟩
 refine codeAny_call_function hr.depth (KX _ _ lk) rfl S.co S.gen rfl (PySem.W.codeRec_of KX Aj) (hb _ _ _ _ ?_)
 refine wpAny_newFunctionEnv_cells S.kind E3 λenv he s1 x=>?_
 subst he;refine⟨lim.keeps x.toInCall.keep,codeAny_func ?_⟩
 obtain⟨t,ht,hq⟩:=sj A outer s H vs Q E (hr.deeper _) JI
 have I:aL (je CX P w K mg base N b_ scope f eY A outer s H E) [] (cS N vs) H s1:=HA S hr.hd e0 hl r x
 refine zaI (ht [] s1 (cS N vs) H _ I hq) (λfl s' hs=>?_) λe s' hs=>hs
 have dN:∀{dS:St} {H':Hp} {v:V} {u:Value},aL (je CX P w K mg base N b_ scope f eY A outer s H E) [] dS H' s'->bI v u->Q v H'->CE outer P w H s Q u s':=
  λ{dS H' v u} J rv q=>⟨v,H',J.os,J.g7,J.base,J.cA,rv,q⟩
 cases fl with
 |ret u =>
  obtain⟨v,dS,H',J,rv,q⟩:=hs;exact dN J rv q
 |next =>
  obtain⟨dS,H',J,q⟩:=hs;exact dN (v:=V.bu) (u:=Value.none) J rfl q
 |brk =>
  obtain⟨_,_,_,q⟩:=hs;exact False.elim q
 |cont =>
  obtain⟨_,_,_,q⟩:=hs;exact False.elim q
section
variable {X:Cx}{x:Str}{p pos:Pos}{e:Expr}{es:List Expr}{t:TA}{id T:String}{r:List V->Hp->VK->Prop}
noncomputable def tCB (r:List V->Hp->VK->Prop)(t:TA):TE:=λσ H Q=>t σ H λvs H1=>r vs H1 Q
theorem Kq (hc:kQ X (.builtin id) r)(hg:Gl X x)(hm:X.mg x=none)(hv:bootBuiltins x=some (.builtin id))(ha:PA X (e::es) t)(hn:autoParam (x ≠ "__name__") zp_1)(sf:autoParam ((x == ("__debug__" : Str))=false) zp_1)
  (he:autoParam (starEach (e::es) X.env=(false,eval e X.env)::starEach es X.env) zp_0) (iA:autoParam ((backTo pos (starEach es X.env)).any (·.1)=false) zp_0):PE X (.Call (.Name x p) (e::es) [] pos) (tCB r t):=by
 intro ah s σ H Q I h;refine zca (rX I hg hm hv ?_ hn sf)
 exact PyProof.Rows.callWith_builtin1 (cH (ha pos ah s σ H _ I h) λus s1 ⟨vs,H1,I1,r1,q1⟩=>hc ah s1 σ H1 vs us Q I1 r1 q1) he iA
theorem HB (hc:kQ X (.type T) r)(hg:Gl X x)(hm:X.mg x=none)(hv:bootBuiltins x=some (.type T))(ha:PA X (e::es) t)(hn:autoParam (x ≠ "__name__") zp_1)(sf:autoParam ((x == ("__debug__" : Str))=false) zp_1)
  (he:autoParam (starEach (e::es) X.env=(false,eval e X.env)::starEach es X.env) zp_0) (iA:autoParam ((backTo pos (starEach es X.env)).any (·.1)=false) zp_0):PE X (.Call (.Name x p) (e::es) [] pos) (tCB r t):=by
 intro ah s σ H Q I h;refine zca (rX I hg hm hv ?_ hn sf)
 exact zbL (cH (ha pos ah s σ H _ I h) λus s1 ⟨vs,H1,I1,r1,q1⟩=>hc ah s1 σ H1 vs us Q I1 r1 q1) he iA
end
section
variable {κ:Type}[DecidableEq κ]
noncomputable def lz (aP:List (κ × V))(k:κ):Option V:=(aP.find? λkv=>decide (kv.1=k)).map (·.2)
noncomputable def jX (aP:List (κ × V))(k:κ)(v:V):List (κ × V):=
 if (aP.any λkv=>decide (kv.1=k))=true then aP.map (λkv=>if kv.1=k then (kv.1,v) else kv) else aP++[(k,v)]
theorem ou {p:κ × V}{r:List (κ × V)}{k:κ}(e:p.1=k):lz (p::r) k=some p.2:=by simp[lz,zcb,e]
theorem ow {p:κ × V}{r:List (κ × V)}{k:κ}(e:¬ p.1=k):lz (p::r) k=lz r k:=by simp[lz,zcb,e]
theorem Aq (k:κ):∀aP:List (κ × V),(aP.any λkv=>decide (kv.1=k))=(lz aP k).isSome
 |[]=>rfl
 |p::r=>by
  rw[zbZ];by_cases e:p.1=k
  ·simp only[ou e,decide_eq_true e,Bool.true_or,zeu]
  ·rw[ow e,decide_eq_false e,Bool.false_or];exact Aq k r
theorem lP (aP:List (κ × V))(k:κ)(v:V):(jX aP k v).length<=aP.length+1:=by
 unfold jX;split
 ·rw[zac];omega
 ·rw[zaf,zaD,zaG];omega
theorem iz.jF (r:iz o u):o.isSome=u.isSome:=by
 cases o with
 |none=>cases u with
  |none=>rfl
  |some _=>exact (show False from r).elim
 |some _=>cases u with
  |none=>exact (show False from r).elim
  |some _=>rfl
theorem iz.getD (r:iz o u)(rd:bI d d'):bI (o.getD d) (u.getD d'):=by
 cases o with
 |none=>cases u with
  |none=>exact rd
  |some _=>exact (show False from r).elim
 |some _=>cases u with
  |none=>exact (show False from r).elim
  |some _=>exact r
theorem KV.val {aP:List (κ × V)}{vs:List (κ × Value)}(r:KV aP vs)(k:κ):iz (lz aP k) (valueAt vs k):=by
 unfold KV at r;induction r with
 |nil=>exact True.intro
 | @cons p q ps qs h t ih =>
  obtain⟨h1,h2⟩:=h;by_cases e:p.1=k
  ·have e':q.1=k:=h1.symm.trans e
   have b:valueAt (q::qs) k=some q.2:=by simp[valueAt,zcb,e']
   rw[ou e,b];exact h2
  ·have e':¬ q.1=k:=λz=>e (h1.trans z)
   have b:valueAt (q::qs) k=valueAt qs k:=by simp[valueAt,zcb,e']
   rw[ow e,b];exact ih
theorem KV.any (r:KV aP vs)(k:κ):(aP.any λkv=>decide (kv.1=k))=vs.any λkv=>decide (kv.1=k):=by
 unfold KV at r;induction r with
 |nil=>rfl
 |cons h t ih=>rw[zbZ,zbZ,ih,h.1]
theorem KV.YG (r:KV aP vs)(k:κ)(ry:bI y u):
  KV (aP.map λkv=>if kv.1=k then (kv.1,y) else kv) (vs.map λkv=>if kv.1=k then (kv.1,u) else kv):=by
 unfold KV at r ⊢
 induction r with
 |nil=>exact .nil
 | @cons p q ps qs h t ih =>
  rw[zas,zas];refine .cons ?_ ih
  obtain⟨h1,h2⟩:=h;by_cases e:p.1=k
  ·rw[if_pos e,if_pos (h1.symm.trans e)];exact⟨h1,ry⟩
  ·rw[if_neg e,if_neg (λz=>e (h1.trans z))];exact⟨h1,h2⟩
theorem KV.C8 (r:KV aP vs)(k:κ)(ry:bI y u):KV (jX aP k y) (stored vs k u):=by
 unfold jX stored;rw[r.any k];by_cases e:(vs.any λkv=>decide (kv.1=k))=true
 ·rw[if_pos e,if_pos e];exact r.YG k ry
 ·rw[if_neg e,if_neg e];exact Paired.snoc r ⟨rfl,ry⟩
theorem KV.pq {aP:List (κ × V)}{vs:List (κ × Value)}(r:KV aP vs):aP.map (·.1)=vs.map (·.1):=by
 unfold KV at r;induction r with
 |nil=>rfl
 |cons h t ih=>rw[zas,zas,ih,h.1]
theorem KV.length (r:KV aP vs):aP.length=vs.length:=Paired.length r
end
theorem qu (r:bI (kV k) u):(bW P w).is k u=true:=by
 cases k with
 |inl i=>obtain⟨t,e⟩:=(show ∃t,u=Value.int i t from r);subst e;exact Af P w i t
 |inr x=>obtain⟨t,e⟩:=(show ∃t,u=Value.str x t from r);subst e;exact Ag P w x t
theorem wm:∀{ks:List dJ} {us:List Value},bN (ks.map kV) us->ItemsAre (bW P w) ks us
 |[],_,r=>by rw[zbM] at r;cases r;exact .nil
 |k::ks,_,r=>by
  rw[zas] at r;cases r with
  |cons h t=>exact .cons (qu h) (wm t)
noncomputable abbrev KT (H:Hp):List (List dJ×V)->List (List dJ×Addr×Value)->Prop:=Paired λp q=>p.1=q.1/\H q.2.1=some (.gS (p.1.map kV))/\bI p.2 q.2.2
theorem KT.val (r:KT H aP xs)(k:List dJ):iz (lz aP k) ((atKey xs k).map (·.2)):=by
 induction r with
 |nil=>exact True.intro
 | @cons p q ps qs h t ih =>
  obtain⟨h1,_,h2⟩:=h;by_cases e:p.1=k
  ·have e':q.1=k:=h1.symm.trans e
   have b:atKey (q::qs) k=some q.2:=by simp[atKey,zcb,e']
   rw[ou e,b];exact h2
  ·have e':¬ q.1=k:=λz=>e (h1.trans z)
   have b:atKey (q::qs) k=atKey qs k:=by simp[atKey,zcb,e']
   rw[ow e,b];exact ih
theorem KT.YG (r:KT H aP xs)(k:List dJ)(ry:bI y u):
  KT H (aP.map λkv=>if kv.1=k then (kv.1,y) else kv) (xs.map (putAt k u)):=by
 induction r with
 |nil=>exact .nil
 | @cons p q ps qs h t ih =>
  rw[zas,zas];refine .cons ?_ ih
  obtain⟨h1,h2,h3⟩:=h;unfold putAt;by_cases e:p.1=k
  ·rw[if_pos e,if_pos (h1.symm.trans e)];exact⟨h1,h2,ry⟩
  ·rw[if_neg e,if_neg (λz=>e (h1.trans z))];exact⟨h1,h2,h3⟩
theorem KT.C8 (r:KT H aP xs)(k:List dJ)(hb:H b=some (.gS (k.map kV)))(ry:bI y u):
  KT H (jX aP k y) (storedH xs k b u):=by
 have e:(aP.any λkv=>decide (kv.1=k))=(atKey xs k).isSome:=by
  rw[Aq,(r.val k).jF,zdr]
 unfold jX storedH;rw[e];by_cases q:(atKey xs k).isSome=true
 ·rw[if_pos q,if_pos q];exact r.YG k ry
 ·rw[if_neg q,if_neg q];exact Paired.snoc r ⟨rfl,hb,ry⟩
theorem KT.keeps (r:KT H aP xs)(ht:∀b ys,H b=some (.gS ys)->H' b=some (.gS ys)):KT H' aP xs:=
 Paired.XX r λ_ _ z=>⟨z.1,ht _ _ z.2.1,z.2.2⟩
theorem Uj (ok:mD P w H h)(e:Rd H a u):cJ P w H h a u:=e.ok ok
theorem qv (ok:mD P w H h)(e:Rd H a (.dK aP)):aP.length<=sizeLine/\(a == sysModules)=false/\∃vs,KV aP vs/\h.DictOf (bW P w) a vs:=
 show cJ P w H h a (.dK aP) from Uj ok e
theorem Uk (ok:mD P w H h)(e:H a=some (.dK aP)):aP.length<=sizeLine/\(a == sysModules)=false/\∃vs,KV aP vs/\h.DictOf (bW P w) a vs:=qv ok (.inl e)
theorem pF (ok:mD P w H h)(e:H a=some (.gS (ks.map kV))):(tupleKind (bW P w)).is h ks a:=by
 obtain⟨_,bg,r,o,h1,h2,n,h3⟩:=(show cJ P w H h a (.gS (ks.map kV)) from ok a _ e)
 exact⟨o,bg.toArray,n,h1,h2,h3,by simpa using wm r⟩
theorem sr (ok:mD P w H h)(e:Rd H a (.dT aP)):aP.length<=sizeLine/\(a == sysModules)=false /\
  ∃xs,KT H aP xs/\h.DictOfH (tupleKind (bW P w)) a xs:=by
 obtain⟨z,y,xs,r,o,es,ep,h1,h2,h3,h4,h5⟩:=(show cJ P w H h a (.dT aP) from Uj ok e)
 refine⟨z,y,xs,r,o,es,ep,h1,h2,h3,h4,λx hx=>?_,h5⟩
 have all:∀{l:List (List dJ×V)} {m:List (List dJ×Addr×Value)},KT H l m->∀x∈m,(tupleKind (bW P w)).is h x.1 x.2.1:=by
  intro l m q;induction q with
  |nil=>intro x hx;exact nomatch hx
  | @cons p q ps qs hq t ih =>
   intro x hx;rcases zao.mp hx with e|hx
   ·subst e
    exact pF ok (by rw[<-hq.1];exact hq.2.1)
   ·exact ih x hx
 exact all r x hx
theorem afp (ok:mD P w H h)(e:H a=some (.dT aP)):aP.length<=sizeLine/\(a == sysModules)=false /\
  ∃xs,KT H aP xs/\h.DictOfH (tupleKind (bW P w)) a xs:=sr ok (.inl e)
noncomputable def nE (H:Hp)(a:Addr)(y:V)(r:Option V):Prop:=
 (∃aP k,Rd H a (.dK aP)/\y=kV k/\r=lz aP k)\/∃aP k b,Rd H a (.dT aP)/\y = .ref b/\H b=some (.gS (k.map kV))/\r=lz aP k
noncomputable def HC (H:Hp)(a:Addr)(y v:V)(H':Hp):Prop:=
 (∃aP k,H a=some (.dK aP)/\y=kV k/\aP.length<sizeLine/\H'=bF H a (.dK (jX aP k v))) \/
 ∃aP k b,H a=some (.dT aP)/\y = .ref b/\H b=some (.gS (k.map kV))/\aP.length<sizeLine/\H'=bF H a (.dT (jX aP k v))
theorem nE.k {H:Hp}{a:Addr}{aP:List (dJ×V)}{k:dJ}(e:H a=some (.dK aP)):nE H a (kV k) (lz aP k):=.inl ⟨aP,k,.inl e,rfl,rfl⟩
theorem HC.k {H:Hp}{a:Addr}{aP:List (dJ×V)}{k:dJ}{v:V}(e:H a=some (.dK aP))(hl:aP.length<sizeLine):HC H a (kV k) v (bF H a (.dK (jX aP k v))):=.inl ⟨aP,k,e,rfl,hl,rfl⟩
theorem aL.big (I:aL X ah σ H s):sysModules<s.heap.objs.size:=by
 have h:mainGlobals<s.heap.objs.size:=(I.rS.rR.keeps I.bk).lt
 exact zdB (by decide) h
theorem HD (hu:A.units+1<cLine)(I:aL X ah σ H s)(g:nE H a y (some v))(ry:bI y u)(h:∀w' s',aL X ah σ H s'->bI v w'->Q w' s'):
  wpAny (model X.prog X.w) A (getItem (.ref a) u) Q E s:=by
 rcases g with⟨aP,k,e,ey,l⟩|⟨aP,k,b,e,ey,eb,l⟩
 ·subst ey
  obtain⟨z,hd,vs,jg,dd⟩:=qv I.cA e;obtain⟨w',hw,C9⟩:=iz.q8 (v:=v) (o:=valueAt vs k) (by rw[l];exact jg.val k)
  exact wpAny_getItem_of (qu ry) dd.mapOf hw (h w' _ (I.nZ _) C9)
 ·subst ey
  cases (show u=Value.ref b from ry)
  obtain⟨z,hd,xs,jg,dd⟩:=sr I.cA e;obtain⟨w',hw,C9⟩:=iz.q8 (v:=v) (o:=(atKey xs k).map (·.2)) (by rw[l];exact jg.val k)
  obtain⟨p,hp,hp2⟩:=zbI.mp hw;refine wpAny_getItem_heap (zcc hu) (pF I.cA eb) dd hp ?_
  rw[hp2];exact h w' _ (I.nZ _) C9
theorem akG (hu:A.units+1<cLine)(I:aL X ah σ H s)(g:nE H a y o)(ry:bI y u)(h:∀s',aL X ah σ H s'->Q (.bool o.isSome) s'):
  wpAny (model X.prog X.w) A (compareOp .In u (.ref a)) Q E s:=by
 rcases g with⟨aP,k,e,ey,l⟩|⟨aP,k,b,e,ey,eb,l⟩
 ·subst ey
  obtain⟨z,hd,vs,jg,dd⟩:=qv I.cA e;refine wpAny_in_of (qu ry) hd dd.mapOf ?_
  rw[<-(jg.val k).jF,<-l];exact h _ (I.nZ _)
 ·subst ey
  cases (show u=Value.ref b from ry)
  obtain⟨z,hd,xs,jg,dd⟩:=sr I.cA e;refine wpAny_in_heap (zcc hu) (pF I.cA eb) hd dd ?_
  have q:=(jg.val k).jF
  rw[zdr] at q;rw[<-q,<-l];exact h _ (I.nZ _)
theorem P7 (hu:A.units+1<cLine)(I:aL X ah σ H s)(g:nE H a y o)(ry:bI y u)(h:∀s',aL X ah σ H s'->Q (.bool (!o.isSome)) s'):
  wpAny (model X.prog X.w) A (compareOp .NotIn u (.ref a)) Q E s:=by
 rcases g with⟨aP,k,e,ey,l⟩|⟨aP,k,b,e,ey,eb,l⟩
 ·subst ey
  obtain⟨z,hd,vs,jg,dd⟩:=qv I.cA e;refine wpAny_notIn_of (qu ry) hd dd.mapOf ?_
  rw[<-(jg.val k).jF,<-l];exact h _ (I.nZ _)
 ·subst ey
  cases (show u=Value.ref b from ry)
  obtain⟨z,hd,xs,jg,dd⟩:=sr I.cA e;refine wpAny_notIn_heap (zcc hu) (pF I.cA eb) hd dd ?_
  have q:=(jg.val k).jF
  rw[zdr] at q;rw[<-q,<-l];exact h _ (I.nZ _)
theorem yC (I:aL X ah σ H s)(mu:Mut (H a))(hs:Heap.SameBut a s.heap h')(he:∃q,h'.get? a=some q)(new:cJ X.prog X.w (bF H a ob) h' a ob):
  aL X ah σ (bF H a ob) {s with heap:=h',toks:=t' }:=
 I.jf (x:=a) (e:=a) mu (.inl rfl) (λb q hb z=>(hs.2 b hb).trans z) he new
theorem Kr (z:aP.length<=sizeLine)(hd:(a == sysModules)=false)(jg:KV aP vs)(dd:h'.DictOf (bW P w) a vs):
  cJ P w H' h' a (.dK aP):=⟨z,hd,vs,jg,dd⟩
theorem HE (hu:A.units+1<cLine)(I:aL X ah σ H s)(g:HC H a y v H')(ry:bI y u)(rv:bI v r)(h:∀s',aL X ah σ H' s'->Q () s'):
  wpAny (model X.prog X.w) A (setItem (.ref a) u r) Q E s:=by
 rcases g with⟨aP,k,e,ey,l,eH⟩|⟨aP,k,b,e,ey,eb,l,eH⟩
 ·subst ey eH
  obtain⟨z,hd,vs,jg,dd⟩:=Uk I.cA e;have hz:vs.length<=sizeLine:=by rw[<-jg.length];exact z
  have hl:(jX aP k v).length<=sizeLine:=by have:=lP aP k v;omega
  refine wpAny_setItem_pairs (hsz:=hz) (qu ry) dd λh' CB hs=>h _ ?_
  have he:∃q,h'.get? a=some q:=let ⟨q,_,_,hq,_⟩:=CB;⟨q,hq⟩
  exact yC I (by rw[e];exact True.intro) hs he (Kr hl hd (jg.C8 k rv) CB)
 ·subst ey eH
  cases (show u=Value.ref b from ry)
  obtain⟨z,hd,xs,jg,dd⟩:=afp I.cA e;have hz:xs.length<=sizeLine:=by rw[<-Paired.length jg];exact z
  have hl:(jX aP k v).length<=sizeLine:=by have:=lP aP k v;omega
  refine wpAny_setItem_heap (hsz:=hz) (zcc hu) (pF I.cA eb) dd λh' CB hs=>h _ ?_
  obtain⟨q,es,ep,hq,h2,h3,h4,_,h5⟩:=CB;refine yC I (by rw[e];exact True.intro) hs ⟨q,hq⟩ ⟨hl,hd,_,(jg.C8 k eb rv).keeps λc ys ec=>?_,q,es,ep,hq,h2,h3,h4,h5⟩
  rw[au (aeG ec e (λz=>nomatch z))]
  exact ec
theorem afq (I:aL X ah σ H s)(e:Rd H a (.dK aP))(h:∀t s',aL X ah σ H s'->Q (.int aP.length t) s'):wpAny (model X.prog X.w) A (call (.builtin "len") [.ref a]) Q E s:=by
 obtain⟨z,hd,vs,jg,dd⟩:=qv I.cA e;refine call_len_dict hd dd (by rw[<-jg.length];rw[zdP] at z;omega) ?_
 rw[<-jg.length];exact h _ _ (I.nZ _)
noncomputable def YH (i:Expr):Prop:=∀ov iv,subscripted i false ov iv=operate [ov,iv] (getItem ov iv)
theorem P8 {prog:Program}{w:World}{A:Around}{E:Value->Shared->Prop}{s:Shared}{env:Env}{value slice:Expr}{pos:Pos}{T id:String}{Q:Value->Shared->Prop}
  (hl:typeLookup (.type T) "__getitem__"=pure (some (.builtin id))) (hs:YH slice)
  (h:wpAny (model prog w) A (eval value env) (λo cF=>wpAny (model prog w) A (eval slice env) (λi lM=>lM.TypeIs o T/\wpAny (model prog w) A (getItem o i) Q E lM) E cF) E s):
  wpAny (model prog w) A (eval (.Subscript value slice pos) env) Q E s:=by
 refine Subscript_ (zaI h (λo cF P9=>zaI P9 (λi lM Ks=>?_) λ_ _ x=>x) λ_ _ x=>x)
 obtain⟨hT,Ks⟩:=Ks;unfold subscriptTail;refine zaa ?_
 rw[getitemInPython_of_ne hT.not_modules];refine zaa (wpAny_specialOf hT hl ?_)
 have dN:wpAny (model prog w) A (subscripted slice false o i) (λr vH=>wpAny (model prog w) A (letTemporaryGo value o r >>= λ_=>pure r) Q E vH) E lM:=by
  rw[hs o i];exact wpAny_operating (zaI Ks (λr vH P_=>zaa (wpAny_letTemporaryGo (zag P_))) λ_ _ x=>x)
 first
  |exact zag (zaa dN)
  |exact zaa (zag (zaa dN))
  |exact zaa dN
theorem Ar (I:aL X ah σ H s)(g:nE H a y o):s.TypeIs (.ref a) "dict" := by
 rcases g with⟨aP,k,e,_,_⟩|⟨aP,k,b,e,_,_,_⟩
 ·obtain⟨_,_,vs,_,dd⟩:=qv I.cA e
  exact dd.typeIs
 ·obtain⟨_,_,xs,_,dd⟩:=sr I.cA e
  exact dd.typeIs
noncomputable def afr (td ty:TE):TE:=λσ H Q=>td σ H λx H1=>ty σ H1 λy H2=>∃a v,x = .ref a/\nE H2 a y (some v)/\Q v H2
noncomputable def afs (ty td:TE):TE:=λσ H Q=>ty σ H λy H1=>td σ H1 λx H2=>∃a o,x = .ref a/\nE H2 a y o/\Q (.bl o.isSome) H2
noncomputable def E4 (ty td:TE):TE:=λσ H Q=>ty σ H λy H1=>td σ H1 λx H2=>∃a o,x = .ref a/\nE H2 a y o/\Q (.bl (!o.isSome)) H2
noncomputable def aft (td ty tv:TE):TS:=λD σ H=>tv σ H λv H1=>td σ H1 λx H2=>ty σ H2 λy H3=>∃a H4,x = .ref a/\HC H3 a y v H4/\D.nx σ H4
theorem Qa (hu:X.A.units+1<cLine)(ho:PE X o td)(hi:PE X i ty)(hs:YH i):PE X (.Subscript o i pos) (afr td ty):=by
 intro ah s σ H Q I h;refine P8 PySem.F.slot_dict_getitem.lookup hs (cH (ho ah s σ H _ I h) λu s1 ⟨x,H1,I1,rx,q1⟩=>cH (hi ah s1 σ H1 _ I1 q1) λiv s2 ⟨y,H2,I2,ry,a,v,ex,g,q2⟩=>?_)
 subst ex;obtain rfl:u=Value.ref a:=rx
 exact⟨Ar I2 g,HD hu I2 g ry λw' s3 I3 C9=>⟨v,H2,I3,C9,q2⟩⟩
theorem YI (hu:X.A.units+1<cLine)(hi:PE X i ty)(ho:PE X o td):PC X .In i o (afs ty td):=by
 intro ah s σ H Q I h;refine cH (hi ah s σ H _ I h) λiv s1 ⟨y,H1,I1,ry,q1⟩=>cH (ho ah s1 σ H1 _ I1 q1) λu s2 ⟨x,H2,I2,rx,a,ov,ex,g,q2⟩=>?_
 subst ex;obtain rfl:u=Value.ref a:=rx
 exact akG hu I2 g ry λs3 I3=>⟨.bl ov.isSome,H2,I3,rfl,q2⟩
theorem HF (hu:X.A.units+1<cLine)(hi:PE X i ty)(ho:PE X o td):PC X .NotIn i o (E4 ty td):=by
 intro ah s σ H Q I h;refine cH (hi ah s σ H _ I h) λiv s1 ⟨y,H1,I1,ry,q1⟩=>cH (ho ah s1 σ H1 _ I1 q1) λu s2 ⟨x,H2,I2,rx,a,ov,ex,g,q2⟩=>?_
 subst ex;obtain rfl:u=Value.ref a:=rx
 exact P7 hu I2 g ry λs3 I3=>⟨.bl (!ov.isSome),H2,I3,rfl,q2⟩
theorem Qc (hu:X.A.units+1<cLine)(ho:PE X o td)(hi:PE X i ty)(hv:PE X value tv)(hs:swapsWith value (some (.Subscript o i jD)) pos.line X.env=pure false):
  PS X (.Assign [.Subscript o i jD] value pos) (aft td ty tv):=by
 intro ah s σ H D I h;refine wpAny_Assign_Subscript (cH (hv ah s σ H _ I h) λr s1 ⟨v,H1,I1,rv,q1⟩=>cH (ho ah s1 σ H1 _ I1 q1) λu s2 ⟨x,H2,I2,rx,q2⟩=>cH (hi ah s2 σ H2 _ I2 q2) λiv s3 ⟨y,H3,I3,ry,a,H4,ex,g,q3⟩=>?_) hs
 subst ex;obtain rfl:u=Value.ref a:=rx
 exact HE hu I3 g ry rv λs4 I4=>⟨σ,H4,I4,q3⟩
theorem As (h:Heap)(hb:sysModules<h.objs.size):cJ P w H (h.push { cls:=.type "dict",data:=.dict #[]}) h.objs.size (.dK []):=
 ⟨zcF _,beq_eq_false_iff_ne.mpr (zbd (zar hb)),[],.nil,Heap.DictOf.new h⟩
noncomputable def YJ:TE:=λ_ H Q=>∀p,H p=none->Q (.ref p) (bF H p (.dK []))
theorem Ku:PE X (.Dict [] [] pos) YJ:=λah s σ H Q I h =>
 wpAny_Dict_empty ⟨.ref s.heap.objs.size,_,I.jB (a:=s.heap.objs.size) (o:=.dK []) (t':=s.toks) (λ_ _ q=>zad _ q) (zah _) (As s.heap I.big),rfl,h _ (I.cA.fresh (zah _))⟩
noncomputable def yD:List (TE×TE)->St->Hp->(List (V×V)->Hp->Prop)->Prop
 |[],_,H,Q=>Q [] H
 | (tk,tv)::r,σ,H,Q=>tk σ H λx H1=>tv σ H1 λy H2=>yD r σ H2 λps H3=>Q ((x,y)::ps) H3
noncomputable abbrev VV:List (V×V)->List (Value×Value)->Prop:=Paired λp q=>bI p.1 q.1/\bI p.2 q.2
noncomputable def PPs (X:Cx)(pos:Pos)(pq:List (Option Expr))(pG:List Expr)(Ul:List (TE×TE)):Prop:=
 ∀(ah:List (Addr×Obj)) (s:Shared) (σ:St) (H:Hp) (Q:List (V×V)->Hp->Prop),aL X ah σ H s->yD Ul σ H Q ->
  wpAny (model X.prog X.w) X.A (evalPairs (pairTrees pq pG X.env pos)) (λvs s'=>∃ps H',aL X ah σ H' s'/\VV ps vs/\Q ps H') X.xe s
theorem Qd:PPs X pos [] [] []:=λah s σ H Q I h=>pairTrees_nil_walk ⟨[],H,I,.nil,h⟩
theorem Kv (hk:PE X k tk)(hv:PE X v tv)(hr:PPs X pos ks vs Ul):
  PPs X pos (some k::ks) (v::vs) ((tk,tv)::Ul):=λah s σ H Q I h =>
 pairTrees_cons_walk (cH (hk ah s σ H _ I h) λu s1 ⟨x,H1,I1,rx,q1⟩=>cH (hv ah s1 σ H1 _ I1 q1) λw2 s2 ⟨y,H2,I2,ry,q2⟩ =>
  cH (hr ah s2 σ H2 _ I2 q2) λws s3 ⟨ps,H3,I3,jg,q3⟩=>⟨(x,y)::ps,H3,I3,.cons ⟨rx,ry⟩ jg,q3⟩)
noncomputable def gc (aP jr:List (dJ×V)):List (dJ×V):=jr.foldl (λcg kv=>jX cg kv.1 kv.2) aP
theorem KV.Au:∀{jr:List (dJ×V)} {rs:List (dJ×Value)} {aP:List (dJ×V)} {vs:List (dJ×Value)},KV jr rs->KV aP vs->KV (gc aP jr) (merged vs rs):=by
 intro jr rs aP vs r;unfold KV at r;induction r generalizing aP vs with
 |nil=>intro q;exact q
 | @cons p q ps qs h t ih =>
  intro r0;have e:KV (jX aP p.1 p.2) (stored vs q.1 q.2):=by
   have:=r0.C8 p.1 h.2
   rw[<-h.1];exact this
  exact ih e
theorem ng:∀(jr aP:List (dJ×V)),(gc aP jr).length<=aP.length+jr.length
 |[],aP=>by show aP.length<=aP.length+0;omega
 |p::r,aP=>by
  have h1:=ng r (jX aP p.1 p.2)
  have h2:=lP aP p.1 p.2;show (gc (jX aP p.1 p.2) r).length<=_
  rw[zaD];omega
theorem su:∀{aP:List (dJ×V)} {ws:List (Value×Value)},VV (aP.map λkv=>(kV kv.1,kv.2)) ws->∃rs,Carries (bW P w) ws rs/\KV aP rs
 |[],_,r=>by rw[zbM] at r;cases r;exact⟨[],True.intro,.nil⟩
 |p::aP,_,r=>by
  rw[zas] at r;cases r with
  | @cons a b as bs h t =>
   obtain⟨rs,c,q⟩:=su (P:=P) (w:=w) t
   obtain⟨b1,b2⟩:=b;exact⟨(p.1,b2)::rs,⟨qu h.1,rfl,c⟩,.cons ⟨rfl,h.2⟩ q⟩
noncomputable def afu (Ul:List (TE×TE)):TE:=λσ H Q=>∀p,H p=none->yD Ul σ (bF H p (.dK [])) λps H2=>H2 p=some (.dK [])/\∃aP:List (dJ×V),ps=aP.map (λkv=>(kV kv.1,kv.2))/\aP.length<=15/\Q (.ref p) (bF H2 p (.dK (gc [] aP)))
theorem Qe {X:Cx}{pos:Pos}{pq:List (Option Expr)}{pG:List Expr}{Ul:List (TE×TE)}(h:PPs X pos pq pG Ul)(Kw:pq.all (·.isSome)=true)(hl:pq.length=pG.length)(h0:pq≠[])
  (h15:pq.length<=15):PE X (.Dict pq pG pos) (afu Ul):=by
 intro ah s σ H Q I q;have hn:=I.cA.fresh (zah s.heap.objs.size)
 have I1:=I.jB (a:=s.heap.objs.size) (o:=.dK []) (h':=s.heap.push { cls:=.type "dict",data:=.dict #[]}) (t':=s.toks) (λ_ _ q=>zad _ q) (zah _) (As s.heap I.big)
 refine wpAny_Dict_walk (knd:=bW X.prog X.w) Kw hl h0 h15 (cH (h ah _ σ _ _ I1 (q _ hn)) λws s2 ⟨ps,H2,I2,jg,e,aP,ep,lk,q2⟩=>?_)
 subst ep;obtain⟨rs,c,rk⟩:=su (P:=X.prog) (w:=X.w) jg
 obtain⟨z,hd,vs0,r0,dd⟩:=Uk I2.cA e;cases r0;refine⟨rs,c,dd,λh' CB hs=>⟨.ref s.heap.objs.size,_,?_,rfl,q2⟩⟩
 have hz:(gc [] aP).length<=sizeLine:=by
  have h1:=ng aP []
  rw[zaG] at h1;rw[zdP];omega
 have he:∃q,h'.get? s.heap.objs.size=some q:=let ⟨q,_,_,hq,_⟩:=CB;⟨q,hq⟩
 exact yC I2 (by rw[e];exact True.intro) hs he (Kr hz hd (rk.Au .nil) CB)
structure M2 (X:Cx) (o:Expr) (m:Str) (fN:Pos) (e f:Expr) (gU:Pos):Prop where
 base:attributeBase o m X.env (eval o X.env)=eval o X.env
 few:((backTo gU (starEach [e,f] X.env)).all (λx=>!x.1) && (backToKw gU (keywordEach [] X.env)).all (λx=>x.1.isSome)
  && decide (([e,f]:List Expr).length+([]:List Keyword).length+(if ([]:List Keyword).isEmpty then 0 else 1)<30))=true
 line:(fN.endLine == gU.line)=true
 afw:backTo gU (starEach [e,f] X.env)=[(false,eval e X.env),(false,eval f X.env)]
noncomputable def IsD (H:Hp)(a:Addr):Prop:=(∃aP,Rd H a (.dK aP))\/∃aP,Rd H a (.dT aP)
theorem YK (I:aL X ah σ H s)(d:IsD H a):
  s.TypeIs (.ref a) "dict" /\ (∀b,Value.ref a = .ref b->∃ob,s.heap.get? b=some ob/\ob.dict=none)/\(a == sysModules)=false:=by
 rcases d with⟨aP,e⟩|⟨aP,e⟩
 ·obtain⟨_,hd,vs,_,dd⟩:=qv I.cA e
  refine⟨dd.typeIs,λb q=>?_,hd⟩
  cases q;obtain⟨ob,_,_,h1,h2,_⟩:=dd;exact⟨ob,h1,h2.2.1⟩
 ·obtain⟨_,hd,xs,_,dd⟩:=sr I.cA e
  refine⟨dd.typeIs,λb q=>?_,hd⟩
  cases q;obtain⟨ob,_,_,h1,h2,_⟩:=dd;exact⟨ob,h1,h2.2.1⟩
theorem YL (hu:A.units+1<cLine)(I:aL X ah σ H s)(g:nE H a y o)(ry:bI y u)(rd:bI d r)(h:∀w' s',aL X ah σ H s'->bI (o.getD d) w'->Q w' s'):
  wpAny (model X.prog X.w) A (call (.builtin "dict.get") [.ref a,u,r]) Q E s:=by
 rcases g with⟨aP,k,e,ey,l⟩|⟨aP,k,b,e,ey,eb,l⟩
 ·subst ey
  obtain⟨z,hd,vs,jg,dd⟩:=qv I.cA e;refine call_meetsIn zcM dd.typeIs zdR (zdG _ _ _) (meets_dict_get_default (bW X.prog X.w) a (qu ry) hd r) ⟨_,dd.mapOf,h _ _ (I.nZ _) ?_⟩
  rw[l];exact (jg.val k).getD rd
 ·subst ey
  cases (show u=Value.ref b from ry)
  obtain⟨z,hd,xs,jg,dd⟩:=sr I.cA e;refine call_meetsIn zcM dd.typeIs zdR (zdG _ _ _) (meetsH_dict_get_default (tupleKind (bW X.prog X.w)) a b hd r) ⟨zcc hu,k,xs,pF I.cA eb,dd,h _ _ (I.nZ _) ?_⟩
  rw[l];exact (jg.val k).getD rd
noncomputable def YM (td ty tx:TE):TE:=λσ H Q=>td σ H λx H1=>∃a,x = .ref a/\IsD H1 a/\ty σ H1 λy H2=>tx σ H2 λz H3=>∃o,nE H3 a y o/\Q (o.getD z) H3
theorem Ky (hu:X.A.units+1<cLine)(ho:PE X o td)(he:PE X e ty)(hf:PE X f tx)(m:M2 X o "get" fN e f gU):PE X (.Call (.Attribute o "get" fN) [e,f] [] gU) (YM td ty tx):=by
 intro ah s σ H Q I h;refine wpAny_Call_method m.base m.few m.line PySem.F.plainAttrs_dict zcM PySem.F.type_dict_get (cH (ho ah s σ H _ I h) λu s1 ⟨x,H1,I1,rx,a,ex,d,q1⟩=>?_)
 subst ex;obtain rfl:u=Value.ref a:=rx
 obtain⟨t1,t2,_⟩:=YK I1 d;refine⟨t1,t2,?_⟩
 rw[m.afw];refine zcG rfl (zcN (zdf (cH (he ah s1 σ H1 _ I1 q1) λiv s2 ⟨y,H2,I2,ry,q2⟩ =>
  zdf (cH (hf ah s2 σ H2 _ I2 q2) λfv s3 ⟨z,H3,I3,rz,ov,g,q3⟩=>Calls.spliced_nil ?_))))
 exact YL hu I3 g ry rz λw' s4 I4 C9=>⟨_,H3,I4,C9,q3⟩
end L2
namespace HT
open PySem PyProof.Rows
section
open PySem.SeqAt
open PySem.AutoSeq1 (wpAny_loadPart')
open PySem.MeetsSeq PySem.MeetsSeq2 PySem.MeetsSeq3
end
theorem Qf (ht:IsTup s.heap t vs.toArray)(hb:IsTup s.heap b ws.toArray)(hv:vs≠[])
  (h1:ws=[]->Q (.ref t) s) (h2:ws≠[]->Q (.ref s.heap.objs.size) { s with heap:=s.heap.push { cls:=.type "tuple",data:=.seq (vs++ws).toArray} })
  (hsz:vs.length+ws.length<=sizeLine):wpAny (model prog w) A (binaryOp .Add (.ref t) (.ref b)) Q E s:=by
 obtain⟨⟨cls,dd,data,sl⟩,ho,hc,n,hd⟩:=id ht
 obtain⟨⟨apj,dd2,anG,Kz⟩,ho2,hc2,n2,hd2⟩:=id hb
 simp only at hc hd hc2 hd2
 subst hc hd hc2 hd2;have e:vs.toArray++ws.toArray=(vs++ws).toArray:=by simp
 by_cases hw:ws=[]
 ·exact concat_meets ⟨_,ho,rfl⟩ ⟨_,ho2,rfl⟩ noFill_tuple_add seq_tuple_add zdS zdH (zdC _ _)
   (tuple_addW1 t b vs.toArray ws.toArray n n2 dd dd2 sl Kz (by simpa using hv) (by simp[hw])) ⟨ho,ho2,h1 hw⟩
 ·refine concat_meets ⟨_,ho,rfl⟩ ⟨_,ho2,rfl⟩ noFill_tuple_add seq_tuple_add zdS zdH (zdC _ _)
   (tuple_addW2 t b vs.toArray ws.toArray n n2 dd dd2 sl Kz (by simpa using hv) (by simpa using hw) (by rw[zan,zan];exact hsz)) ⟨ho,ho2,?_⟩
  rw[e];exact h2 hw
noncomputable def gp (n d:Nat):Option Int->Nat
 |none=>d
 |some v=>if v<0 then (v+(n:Int)).toNat else min v.toNat n
theorem Av (n d:Nat):gp n d none=d:=rfl
theorem yE (n d k:Nat):gp n d (some (k:Int))=min k n:=by
 show (if (k:Int)<0 then ((k:Int)+(n:Int)).toNat else min (k:Int).toNat n)=min k n
 rw[if_neg (by omega),zbo]
theorem YN (n d:Nat)(hd:d<=n)(o:Option Int):gp n d o<=n:=by
 cases o with
 |none=>exact hd
 |some v =>
  show (if v<0 then (v+(n:Int)).toNat else min v.toNat n)<=n
  by_cases hv:v<0
  ·rw[if_pos hv];omega
  ·rw[if_neg hv];exact Nat.min_le_right _ _
theorem E5 (v:Int)(n d:Nat):(if v<0 then max (v+(n:Int)) 0 else min v (n:Int))=((gp n d (some v):Nat):Int):=by
 show (if v<0 then max (v+(n:Int)) 0 else min v (n:Int))=(((if v<0 then (v+(n:Int)).toNat else min v.toNat n):Nat):Int)
 by_cases hv:v<0
 ·simp only[if_pos hv];omega
 ·simp only[if_neg hv];omega
theorem C_ (lo hi:Option Int)(n:Nat):Builtin.Slice.sliceAdjust lo hi 1 (n:Int)=(((gp n 0 lo:Nat):Int),((gp n n hi:Nat):Int)):=by
 have h1:¬ ((1:Int)<0):=by omega
 unfold Builtin.Slice.sliceAdjust;simp only[h1,if_false];refine Prod.ext ?_ ?_
 ·cases lo with
  |none=>rfl
  |some v=>exact E5 v n 0
 ·cases hi with
  |none=>rfl
  |some v=>exact E5 v n n
theorem Dc (i j:Nat):Builtin.Slice.slicePlaces (i:Int) (j:Int) 1=j - i:=by
 unfold Builtin.Slice.slicePlaces;have h1:(1:Int) > 0:=by omega
 simp only[h1,if_true,Int.ediv_one];split<;>omega
theorem sA (p:IsPart v o)(h:Q o s):wpAny (model prog w) A (Builtin.Slice.slicePartIndex v) Q E s:=by
 cases p with
 |none=>exact slicePart_none h
 |int i t=>exact slicePart_int h
theorem pH {sl:Addr}{vl vu:Value}{lo hi:Option Int}{n:Nat}{Q:Int×Int×Nat->Shared->Prop}(hs:s.heap.IsSliceOf sl vl vu .none)(pl:IsPart vl lo)(pu:IsPart vu hi)
  (h:Q (((gp n 0 lo:Nat):Int),1,gp n n hi - gp n 0 lo) s):wpAny (model prog w) A (Builtin.Slice.sliceApplied (.ref sl) (pure (n:Int))) Q E s:=by
 obtain⟨os,YO,hcs,hds⟩:=id hs;unfold Builtin.Slice.sliceApplied Builtin.Slice.sliceFields;refine zaa (zaa (zbs YO hds (x:=vl) rfl (zaa (zbs YO hds (x:=vu) rfl (zaa (zbs YO hds (x:=.none) rfl (zag ?_)))))))
 refine zaa (slicePart_none ?_)
 show wpAny _ _ (if ((1:Int) == 0)=true then _ else _) _ _ s
 rw[if_neg (by decide)]
 refine zaa (sA pl (zaa (sA pu (zaa (zag ?_)))))
 show wpAny _ _ (match Builtin.Slice.sliceAdjust lo hi 1 (n:Int) with | (lo,hi)=>pure (lo,(1:Int),Builtin.Slice.slicePlaces lo hi 1)) _ _ s
 rw[C_ lo hi n];show wpAny _ _ (pure (((gp n 0 lo:Nat):Int),(1:Int),Builtin.Slice.slicePlaces ((gp n 0 lo:Nat):Int) ((gp n n hi:Nat):Int) 1)) _ _ s
 rw[Dc];exact zag h
theorem KA (xs:Array Value)(i k:Nat):((List.range k).filterMap λ(m:Nat)=>xs[((i:Int)+(m:Int) * 1).toNat]?).toArray=((xs.toList.drop i).take k).toArray:=by
 have e:(λ(m:Nat)=>xs[((i:Int)+(m:Int) * 1).toNat]?)=λm=>xs[i+m]?:= by
  funext m
  have:((i:Int)+(m:Int) * 1).toNat=i+m:=by omega
  rw[this]
 rw[e]
 have:=pick_run xs i k
 rw[List.filterMap_map] at this;have e2:((λx=>xs[x]?) ∘ λx=>i+x)=λm=>xs[i+m]?:= rfl
 rw[e2] at this;rw[this]
theorem oz {t sl:Addr}{items:Array Value}{vl vu:Value}{lo hi:Option Int}{Q:Value->Shared->Prop}(ht:IsTup s.heap t items)(hs:s.heap.IsSliceOf sl vl vu .none)(pl:IsPart vl lo)(pu:IsPart vu hi)
  (hw:¬ (gp items.size 0 lo=0/\gp items.size items.size hi=items.size))
  (h:Q (.ref s.heap.objs.size) { s with heap:=s.heap.push { cls:=.type "tuple",data:=.seq ((items.toList.drop (gp items.size 0 lo)).take (gp items.size items.size hi - gp items.size 0 lo)).toArray} })
  (hsz:items.size<=sizeLine):wpAny (model prog w) A (getItem (.ref t) (.ref sl)) Q E s:=by
 have E6:sizeOk (.seq ((items.toList.drop (gp items.size 0 lo)).take (gp items.size items.size hi - gp items.size 0 lo)).toArray):=by
  show ((items.toList.drop (gp items.size 0 lo)).take (gp items.size items.size hi - gp items.size 0 lo)).toArray.size<=sizeLine
  rw[zan,zaQ,zdD,zcV];omega
 have hj:gp items.size items.size hi<=items.size:=YN _ _ (zah _) hi
 obtain⟨os,YO,hcs,hds⟩:=id hs;have hTs:s.TypeIs (.ref sl) "slice" := ⟨os,YO,hcs⟩
 unfold getItem;try with_reducible refine zbu ?_
 first|refine zaa (zag ?_)|skip
 refine zaa (wpAny_sequenceKey ht.typeIs (by decide) ?_)
 refine zaa (zbF (name:=Str.ofString "__getitem__") ht.typeIs zbY
  (zbS zbY ht.typeIs entry_tuple_getitem ?_ (args_tuple_getitem _ _)))
 show wpAny _ _ (Builtin.Tuple.tupleItemsOf (.ref t) >>= _) _ _ s
 refine zaa (tupleItemsOf_ ht ?_)
 refine zaa (wpAny_typeOf hTs ?_)
 rw[if_pos (by decide)]
 refine zaa (pH hs pl pu ?_)
 have hno:¬ ((((gp items.size 0 lo:Nat):Int) == 0 && (1:Int) == 1 && (gp items.size items.size hi - gp items.size 0 lo) == items.size)=true):=by
  intro q;rw[zbv,zbv] at q;have q1:((gp items.size 0 lo:Nat):Int)=0:=eq_of_beq q.1.1
  have q2:gp items.size items.size hi - gp items.size 0 lo=items.size:=eq_of_beq q.2
  exact hw ⟨by omega,by omega⟩
 show wpAny _ _ (if (((gp items.size 0 lo:Nat):Int) == 0 && (1:Int) == 1 && (gp items.size items.size hi - gp items.size 0 lo) == items.size)=true then _ else _) _ _ s
 rw[if_neg hno,KA];first
  |exact zaa (m:=Builtin.Tuple.tupleExact _) (zaW (zag ⟨_,rfl,zag h⟩) E6)
  |exact zaa (m:=Builtin.Tuple.tupleExact _) (zaW (zaa (zag (zag ⟨_,rfl,zag h⟩))) E6)
  |exact zaa (zaa (m:=Builtin.Tuple.tupleExact _) (zaW (zag (zag ⟨_,rfl,zag h⟩)) E6))
  |exact zaa (zaa (m:=Builtin.Tuple.tupleExact _) (zaW (zag ⟨_,rfl,zag h⟩) E6))
end HT
namespace L2
open PySem PySem.Spec PyProof.Rows
noncomputable abbrev TO:=St->Hp->(Option Int->Hp->Prop)->Prop
noncomputable def PO (X:Cx)(e:Option Expr)(t:TO):Prop:=
 ∀(ah:List (Addr×Obj)) (s:Shared) (σ:St) (H:Hp) (Q:Option Int->Hp->Prop),aL X ah σ H s->t σ H Q ->
  wpAny (model X.prog X.w) X.A (evalPart e X.env) (λu s'=>∃o H',aL X ah σ H' s'/\IsPart u o/\Q o H') X.xe s
noncomputable def Qg:TO:=λ_ H Q=>Q none H
noncomputable def afx (t:TE):TO:=λσ H Q=>t σ H λx H1=>∃i,x = .int i/\Q (some i) H1
theorem Dd:∀{us:List Value},bN (ns.map V.int) us->IntsAre us ns:=by
 induction ns with
 |nil=>intro us r;rw[zbM] at r;cases r;exact .nil
 |cons n ns ih =>
  intro us r;rw[zas] at r;cases r with
  |cons r1 r2 =>
   obtain⟨t,e⟩:=r1;subst e;exact .cons n t (ih r2)
section
variable {X:Cx}{e:Expr}{te:TE}{lo hi:Option Expr}{tl th:TO}{pos p2:Pos}
theorem Qh:PO X none Qg:=by
 intro ah s σ H Q I h;rw[evalPart_none];exact zag ⟨none,H,I,.none,h⟩
theorem Qi (h:PE X e te):PO X (some e) (afx te):=by
 intro ah s σ H Q I hw;rw[evalPart_some];refine cH (h ah s σ H _ I hw) λu s1 ⟨x,H1,I1,r1,q1⟩=>?_
 obtain⟨i,rfl,q⟩:=q1;obtain⟨t,rfl⟩:=r1;exact⟨some i,H1,I1,.int i t,q⟩
noncomputable def SlR (X:Cx)(r:V->Option Int->Option Int->Hp->VK->Prop):Prop:=
 ∀(ah:List (Addr×Obj)) (s:Shared) (σ:St) (H:Hp) (x:V) (v vl vu:Value) (lo hi:Option Int) (sl:Addr) (Q:VK),aL X ah σ H s->bI x v->s.heap.IsSliceOf sl vl vu .none->IsPart vl lo->IsPart vu hi->r x lo hi H Q ->
  ∃T id,typeLookup (.type T) "__getitem__"=pure (some (.builtin id))/\s.TypeIs v T/\wpAny (model X.prog X.w) X.A (getItem v (.ref sl)) (EP X ah σ Q) X.xe s
noncomputable def tSl (r:V->Option Int->Option Int->Hp->VK->Prop)(te:TE)(tl th:TO):TE:=λσ H Q=>te σ H λx H1=>tl σ H1 λl H2=>th σ H2 λu H3=>r x l u H3 Q
theorem KC (hr:SlR X r)(he:PE X e te)(hl:PO X lo tl)(hu:PO X hi th):PE X (.Subscript e (.Slice lo hi none p2) pos) (tSl r te tl th):=by
 intro ah s σ H Q I h;refine Subscript_ (cH (he ah s σ H _ I h) λv s1 ⟨x,H1,I1,r1,q1⟩=>?_)
 refine wpAny_Slice (cH (hl ah s1 σ H1 _ I1 q1) λvl s2 ⟨l,H2,I2,pl,q2⟩=>cH (hu ah s2 σ H2 _ I2 q2) λvu s3 ⟨u,H3,I3,pu,q3⟩=>?_)
 rw[evalPart_none];refine zag ?_
 have I4:aL X ah σ H3 { s3 with heap:=s3.heap.push { cls:=.type "slice",data:=.fields #[vl,vu,.none]} }:=I3.gH (t':=s3.toks) λb ob q=>zad _ q
 obtain⟨T,id,hT,ht,hg⟩:=hr ah { s3 with heap:=s3.heap.push { cls:=.type "slice",data:=.fields #[vl,vu,.none]} } σ H3 x v vl vu l u s3.heap.objs.size Q I4 r1 (Heap.IsSliceOf.new ..) pl pu q3
 show wpAny (model X.prog X.w) X.A (subscriptTail e (.Slice lo hi none p2) v (.ref s3.heap.objs.size)) (EP X ah σ Q) X.xe { s3 with heap:=s3.heap.push { cls:=.type "slice",data:=.fields #[vl,vu,.none]} }
 exact tail_any (ops:=[.ref s3.heap.objs.size,v]) ht hT hg (by with_unfolding_all rfl)
noncomputable def Aw (xs:List V)(lo hi:Option Int):List V:=(xs.drop (HT.gp xs.length 0 lo)).take (HT.gp xs.length xs.length hi - HT.gp xs.length 0 lo)
theorem qw (xs:List V)(lo hi:Option Int):(Aw xs lo hi).length<=xs.length:=by
 unfold Aw;rw[zaQ,zdD];omega
noncomputable def akI (K:PySem.W.Frag):V->Option Int->Option Int->Hp->VK->Prop:=λx lo hi H Q=>∃a xs,x = .ref a/\nA K H a xs /\
 ¬ (HT.gp xs.length 0 lo=0/\HT.gp xs.length xs.length hi=xs.length)/\∀p,H p=none->Q (.ref p) (bF H p (.gS (Aw xs lo hi)))
theorem YQ:SlR X (akI X.K):=by
 intro ah s σ H x v vl vu lo hi sl Q I rx hs pl pu h;obtain⟨a,xs,rfl,hx,hw,q⟩:=h;cases rx;obtain⟨bg,r,ht,hz⟩:=I.fH hx;have dm:bg.toArray.size=xs.length:=by rw[zan];exact r.length.symm
 refine⟨"tuple",_,zbY.lookup,ht.typeIs,?_⟩
 refine HT.oz ht hs pl pu (by rw[dm];exact hw) ?_ (by rw[dm];exact hz)
 rw[dm];refine⟨.ref s.heap.objs.size,_,I.jB (t':=s.toks) (o:=.gS (Aw xs lo hi)) (λb ob q=>zad _ q) (zah _) ?_,rfl,q _ (I.cA.fresh (zah _))⟩
 exact⟨zai (qw xs lo hi) hz,_,(r.drop (HT.gp xs.length 0 lo)).take (HT.gp xs.length xs.length hi - HT.gp xs.length 0 lo),IsTup.new _ _⟩
noncomputable def afy (K:PySem.W.Frag):R2:=λx y H Q=>∃a b xs ys,x = .ref a/\y = .ref b/\nA K H a xs/\nA K H b ys/\xs≠[]/\xs.length+ys.length<=sizeLine /\
 (ys=[]->Q (.ref a) H)/\(ys≠[]->∀p,H p=none->Q (.ref p) (bF H p (.gS (xs++ys))))
theorem bN.yF (r:bN xs us):us=[]↔xs=[]:=by
 cases r with
 |nil=>simp
 |cons _ _=>simp
theorem Qj:jV X (binaryOp .Add) (afy X.K):=by
 intro ah s σ H x y v u Q I rx ry h;obtain⟨a,b,xs,ys,rfl,rfl,ha,hb,hx,hz,q1,q2⟩:=h;cases rx;cases ry;obtain⟨bg,r1,p1,_⟩:=I.fH ha;obtain⟨g8,r2,p2,_⟩:=I.fH hb;refine HT.Qf p1 p2 (λz=>hx (r1.yF.mp z)) (λz=>⟨.ref a,H,I,rfl,q1 (r2.yF.mp z)⟩) (λz=>?_) (by rw[<-r1.length,<-r2.length];exact hz)
 refine⟨.ref s.heap.objs.size,_,I.jB (t':=s.toks) (o:=.gS (xs++ys)) (λb ob q=>zad _ q) (zah _) ?_,rfl,q2 (λw=>z (r2.yF.mpr w)) _ (I.cA.fresh (zah _))⟩
 exact⟨by rw[zaf];exact hz,_,r1.lJ r2,IsTup.new _ _⟩
end
noncomputable def Aa (n:Nat)(i:Int):Option Nat:=if 0<=i then (if i<n then some i.toNat else none) else if -(n:Int)<=i then some (i+n).toNat else none
noncomputable def ig {α:Type}(xs:List α)(i:Int):Option α:= (Aa xs.length i).bind λj=>xs[j]?
theorem E7 (h:Aa n i=some j):seqIndex? i n=some j/\j<n /\ -(n:Int)<=i/\i<n:=by
 unfold Aa at h;by_cases h0:0<=i
 ·rw[if_pos h0] at h
  by_cases h1:i<n
  ·rw[if_pos h1] at h
   have e:i.toNat=j:=zav h
   exact⟨by rw[seqIndex_of h0 h1,e],by omega,by omega,h1⟩
  ·rw[if_neg h1] at h;cases h
 ·rw[if_neg h0] at h
  by_cases h1: -(n:Int)<=i
  ·rw[if_pos h1] at h
   have e:(i+n).toNat=j:=zav h
   exact⟨by rw[seqIndex_neg (by omega) h1,e],by omega,h1,by omega⟩
  ·rw[if_neg h1] at h;cases h
theorem yG {α:Type}{xs:List α}{i:Int}{v:α}(h:ig xs i=some v):∃j,seqIndex? i xs.length=some j/\xs[j]? = some v/\j<xs.length /\ -(xs.length:Int)<=i/\i<xs.length:=by
 unfold ig at h;cases e:Aa xs.length i with
 |none=>rw[e] at h;cases h
 |some j =>
  rw[e] at h;obtain⟨h1,h2,h3,h4⟩:=E7 e;exact⟨j,h1,h,h2,h3,h4⟩
theorem gq {α:Type}{xs:List α}{j:Nat}{v:α}(h:xs[j]? = some v):ig xs (j:Int)=some v:=by
 have hj:j<xs.length:=(zab.mp h).1
 have e:Aa xs.length (j:Int)=some j:=by
  unfold Aa;rw[if_pos (by omega),if_pos (by omega)];simp
 unfold ig;rw[e];exact h
noncomputable def E8 (b:Expr):Prop:=∀o i,subscripted b false o i=operate [o,i] (getItem o i)
noncomputable def Qk (X:Cx)(r:R2):Prop:=
 ∀(value slice:Expr) (ah:List (Addr×Obj)) (s:Shared) (σ:St) (H:Hp) (x y:V) (v u:Value) (Q:VK),aL X ah σ H s->bI x v->bI y u->r x y H Q ->
  subscripted slice false v u=operate [v,u] (getItem v u)->wpAny (model X.prog X.w) X.A (subscriptTail value slice v u) (EP X ah σ Q) X.xe s
noncomputable def MtR (X:Cx)(id:String)(r:V->List V->Hp->VK->Prop):Prop:=
 ∀(ah:List (Addr×Obj)) (s:Shared) (σ:St) (H:Hp) (x:V) (xs:List V) (v:Value) (us:List Value) (Q:VK),aL X ah σ H s->bI x v->bN xs us->r x xs H Q ->
  wpAny (model X.prog X.w) X.A (call (.builtin id) (v::us)) (EP X ah σ Q) X.xe s
section
variable {X:Cx}{a b:Expr}{ta tb:TE}{pos:Pos}
theorem Qk.or (h:Qk X r)(h':Qk X r'):Qk X (λx y H Q=>r x y H Q\/r' x y H Q):=by
 intro value slice ah s σ H x y v u Q I rx ry q hs;rcases q with q|q
 ·exact h value slice ah s σ H x y v u Q I rx ry q hs
 ·exact h' value slice ah s σ H x y v u Q I rx ry q hs
theorem afz (hr:Qk X r)(ha:PE X a ta)(hb:PE X b tb)(hs:E8 b):PE X (.Subscript a b pos) (tOp r ta tb):=by
 intro ah s σ H Q I h;exact Subscript_ (Yr ha hb I h λv u s2 x y H2 I2 rx ry q=>hr a b ah s2 σ H2 x y v u Q I2 rx ry q (hs _ _))
noncomputable def afA (K:PySem.W.Frag):R2:=λx y H Q=>∃p xs i v,x = .ref p/\y = .int i/\iO K H p xs/\ig xs i=some v/\Q v H
noncomputable def afB (K:PySem.W.Frag):R2:=λx y H Q=>∃p xs i v,x = .ref p/\y = .int i/\nA K H p xs/\ig xs i=some v/\Q v H
noncomputable def afC:R2:=λx y H Q=>∃z i c,x = .str z/\y = .int i/\z.length<=sizeLine/\ig z.cps.toList i=some c/\Q (.str ⟨#[c]⟩) H
theorem Ql:Qk X (afA X.K):=by
 intro value slice ah s σ H x y v u Q I rx ry h hs;obtain⟨p,xs,i,z,rfl,rfl,hq,he,q⟩:=h;cases rx;obtain⟨t,rfl⟩:=ry;obtain⟨bg,r,pl,hz⟩:=I.list hq;obtain⟨j,h1,h2,h3,h4,h5⟩:=yG he;obtain⟨w,ew,C9⟩:=r.get h2;have hl:=r.length;have hn:=pC;have dN:EP X ah σ Q w s:=⟨z,H,I,C9,q⟩
 by_cases h0:0<=i
 ·have hj:i.toNat=j:=by
   rw[seqIndex_of h0 h5] at h1;exact zav h1
  exact item_listR pl.isList h0 (by omega) (by rw[hj];simpa using ew) dN hs
 ·have hj:(i+(bg.toArray.size:Int)).toNat=j:=by
   rw[seqIndex_neg (by omega) h4] at h1
   rw[zan,<-hl];exact zav h1
  exact subscriptTail_builtinR (x:=w) pl.isList.typeIs slot_list_getitem.lookup
   (wpAny_getItem_list_neg (Q:=λr s'=>r=w/\EP X ah σ Q r s') pl.isList (by omega) (by rw[zan]<;>omega) (by omega) (by rw[hj];simpa using ew) ⟨rfl,dN⟩) hs
theorem YR:Qk X (afB X.K):=by
 intro value slice ah s σ H x y v u Q I rx ry h hs;obtain⟨p,xs,i,z,rfl,rfl,hq,he,q⟩:=h;cases rx;obtain⟨t,rfl⟩:=ry;obtain⟨bg,r,pl,hz⟩:=I.fH hq;obtain⟨j,h1,h2,h3,h4,h5⟩:=yG he;obtain⟨w,ew,C9⟩:=r.get h2;have hl:=r.length;have hn:=pC;have dN:EP X ah σ Q w s:=⟨z,H,I,C9,q⟩
 exact subscriptTail_builtinR (x:=w) pl.typeIs slot_tuple_getitem.lookup
  (getItem_tuple (j:=j) (Q:=λr s'=>r=w/\EP X ah σ Q r s') pl (by omega) (by omega) (by rw[zan,<-hl];exact h1) (by simpa using ew) ⟨rfl,dN⟩) hs
theorem YS:Qk X afC:=by
 intro value slice ah s σ H x y v u Q I rx ry h hs;obtain⟨z,i,c,rfl,rfl,hz,he,q⟩:=h;obtain⟨t,rfl⟩:=rx;obtain⟨t',rfl⟩:=ry;obtain⟨j,h1,h2,h3,h4,h5⟩:=yG he;have hl:z.cps.toList.length=z.length:=by simp[Str.length]
 rw[hl] at h1 h4 h5;have hn:=pC;exact tail_any (typeIs_str s z t) slot_str_getitem.lookup (getItem_str (c:=c) (by
  have e1:decide (i < -(2 ^ 63:Int))=false:=decide_eq_false (by omega)
  have e2:decide (i ≥ 2 ^ 63)=false:=decide_eq_false (by omega)
  rw[e1,e2,zej]) (by rw[h1];simpa using h2) ⟨.str ⟨#[c]⟩,H,I.nZ _,⟨_,rfl⟩,q⟩) hs
noncomputable def rIx (K:PySem.W.Frag):R2:=λx y H Q=>afA K x y H Q\/afB K x y H Q\/afC x y H Q
theorem YT:Qk X (rIx X.K):=Ql.or (YR.or YS)
theorem De (bg:List Value)(n j:Nat)(u:Value):Obj.mapSeq (·.setIfInBounds j u) { cls:=.type "list",data:=.seq bg.toArray n} = { cls:=.type "list",data:=.seq (bg.set j u).toArray n}:=by
 simp[Obj.mapSeq]
theorem aL.bM (I:aL X ah σ H s)(h:H p=some (.bM xs)):
  ∃(bg:List Value) (n:Nat),bN xs bg/\s.heap.get? p=some { cls:=.type "list",data:=.seq bg.toArray n}/\xs.length<=sizeLine:=by
 obtain⟨z,bg,n,r,e⟩:=I.cA p _ h;exact⟨bg,n,r,e,z⟩
theorem aL.YU {ah:List (Addr×Obj)}{σ:St}{H:Hp}{s:Shared}{p:Addr}{xs ys:List V}{bg its':List Value}{n n':Nat}{f:Obj->Obj}(I:aL X ah σ H s)(h:H p=some (.bM xs))
  (ho:s.heap.get? p=some { cls:=.type "list",data:=.seq bg.toArray n}) (hf:f { cls:=.type "list",data:=.seq bg.toArray n} = { cls:=.type "list",data:=.seq its'.toArray n' }) (r:bN ys its') (hz:ys.length<=sizeLine) (t:Nat):
  aL X ah σ (bF H p (.bM ys)) {s with heap:=s.heap.update p f,toks:=t}:=by
 have e:(s.heap.update p f).get? p=some { cls:=.type "list",data:=.seq its'.toArray n' }:=by
  rw[zaV f ho (by rw[hf]<;>rfl),hf]
 refine I.jf (x:=p) (e:=p) (by rw[h];trivial) (.inl rfl) (λb u hb q=>(zaC _ _ (zbd hb)).trans q) ⟨_,e⟩ ?_
 exact⟨hz,its',n',r,e⟩
noncomputable def afD:V->V->V->Hp->(Hp->Prop)->Prop:=λo i v H Q=>∃p xs k j,o = .ref p/\i = .int k/\H p=some (.bM xs)/\Aa xs.length k=some j/\Q (bF H p (.bM (xs.set j v)))
theorem KD:Yj X afD:=by
 intro ah s σ H o i v ov iv u Q I ro ri rv h;obtain⟨p,xs,k,j,rfl,rfl,hp,hj,q⟩:=h;cases ro;obtain⟨t,rfl⟩:=ri;obtain⟨bg,n,r,ho,hz⟩:=I.bM hp;obtain⟨h1,h2,h3,h4⟩:=E7 hj;have hl:=r.length;have hn:=pC;have I':aL X ah σ (bF H p (.bM (xs.set j v))) {s with heap:=s.heap.update p (Obj.mapSeq (·.setIfInBounds j u))}:=
  I.YU hp ho (De bg n j u) (r.set rv j) (by rw[zcO];exact hz) s.toks
 by_cases h0:0<=k
 ·have hk:k.toNat=j:=by
   rw[seqIndex_of h0 h4] at h1;exact zav h1
  exact PySem.W.ki_setAt ho h0 (by omega) (by rw[zan,<-hl];exact h4) (by rw[hk];exact⟨_,I',q⟩)
 ·have hk:(k+(bg.toArray.size:Int)).toNat=j:=by
   rw[seqIndex_neg (by omega) h3] at h1
   rw[zan,<-hl];exact zav h1
  exact PySem.W.ki_setBack ho (by omega) (by rw[zan,<-hl];exact h3) (by omega) (by rw[hk];exact⟨_,I',q⟩)
theorem yH (lo hi:Option Int)(n:Nat):(sliceBounds lo hi none n).1=((HT.gp n 0 lo:Nat):Int)/\(sliceBounds lo hi none n).2.1=((HT.gp n n hi:Nat):Int)/\(sliceBounds lo hi none n).2.2=1:=by
 refine⟨?_,?_,rfl⟩
 ·cases lo with
  |none=>simp[sliceBounds,HT.gp]
  |some i =>
   simp only[sliceBounds,HT.gp,zck,show (1:Int) > 0 by decide,if_true]
   by_cases h:i<0
   ·simp only[h,if_true]<;>omega
   ·simp only[h,if_false]<;>omega
 ·cases hi with
  |none=>simp[sliceBounds,HT.gp]
  |some i =>
   simp only[sliceBounds,HT.gp,zck,show (1:Int) > 0 by decide,if_true]
   by_cases h:i<0
   ·simp only[h,if_true]<;>omega
   ·simp only[h,if_false]<;>omega
theorem vI (bg:List Value)(lo hi:Option Int):slicePick bg.toArray lo hi none=((bg.drop (HT.gp bg.length 0 lo)).take (HT.gp bg.length bg.length hi - HT.gp bg.length 0 lo)).toArray:=by
 obtain⟨h1,h2,h3⟩:=yH lo hi bg.toArray.size;unfold slicePick;rw[h1,h2,h3];simp only[sliceRange_one,pick_run,zan]<;>rfl
noncomputable def akK (K:PySem.W.Frag):V->Option Int->Option Int->Hp->VK->Prop:=λx lo hi H Q=>∃a xs,x = .ref a/\iO K H a xs/\∀p,H p=none->Q (.ref p) (bF H p (.bM (Aw xs lo hi)))
theorem Qm:SlR X (akK X.K):=by
 intro ah s σ H x v vl vu lo hi sl Q I rx hs pl pu h;obtain⟨a,xs,rfl,hx,q⟩:=h;cases rx;obtain⟨bg,r,ht,hz⟩:=I.list hx;have dm:=r.length;refine⟨"list",_,slot_list_getitem.lookup,ht.isList.typeIs,?_⟩
 refine wpAny_getItem_list_slice ht.isList hs pl pu .none (by simp) ?_ (by rw[zan]<;>omega)
 rw[vI,<-dm];refine⟨.ref s.heap.objs.size,_,I.jB (t':=s.toks) (o:=.bM (Aw xs lo hi)) (λb ob q=>zad _ q) (zah _) ?_,rfl,q _ (I.cA.fresh (zah _))⟩
 exact⟨zai (qw xs lo hi) hz,_,0,(r.drop (HT.gp xs.length 0 lo)).take (HT.gp xs.length xs.length hi - HT.gp xs.length 0 lo),zap _ rfl⟩
noncomputable def iu:V->Bool
 |.bu=>true
 |.bl _=>true
 |.int _=>true
 |.str _=>true
 |_=>false
noncomputable def yI:V->V->Bool
 |.bu,.bu=>true
 |.bl a,.bl b=>a == b
 |.bl a,.int b=>(if a then 1 else 0) == b
 |.int a,.bl b=>a == (if b then 1 else 0)
 |.int a,.int b=>a == b
 |.str a,.str b=>a == b
 |_,_=>false
theorem KG (ry:bI y u)(rx:bI x v)(fy:iu y=true)(fx:iu x=true):SeqAt.EqAt A s u v (yI y x):=by
 cases y with
 |bu =>
  cases ry;cases x with
  |bu=>cases rx;exact zdK _
  |bl b=>cases rx;exact SeqAt.EqAt.none_bool b
  |int b=>obtain⟨t,rfl⟩:=rx;exact SeqAt.EqAt.none_int b t
  |str b=>obtain⟨t,rfl⟩:=rx;exact SeqAt.EqAt.none_str b t
  |_=>exact absurd (show false=true from fx) zak
 |bl a =>
  cases ry;cases x with
  |bu=>cases rx;exact SeqAt.EqAt.bool_none a
  |bl b=>cases rx;exact SeqAt.EqAt.bool_bool a b
  |int b=>obtain⟨t,rfl⟩:=rx;exact SeqAt.EqAt.bool_int a b t
  |str b=>obtain⟨t,rfl⟩:=rx;exact SeqAt.EqAt.bool_str a b t
  |_=>exact absurd (show false=true from fx) zak
 |int a =>
  obtain⟨t',rfl⟩:=ry;cases x with
  |bu=>cases rx;exact SeqAt.EqAt.int_none a t'
  |bl b=>cases rx;exact SeqAt.EqAt.int_bool a t' b
  |int b=>obtain⟨t,rfl⟩:=rx;exact SeqAt.EqAt.int_int a t' b t
  |str b=>obtain⟨t,rfl⟩:=rx;exact zeq a t' b t
  |_=>exact absurd (show false=true from fx) zak
 |str a =>
  obtain⟨t',rfl⟩:=ry;cases x with
  |bu=>cases rx;exact SeqAt.EqAt.str_none a t'
  |bl b=>cases rx;exact SeqAt.EqAt.str_bool a t' b
  |int b=>obtain⟨t,rfl⟩:=rx;exact zer a t' b t
  |str b=>obtain⟨t,rfl⟩:=rx;exact SeqAt.EqAt.str_str a t' b t
  |_=>exact absurd (show false=true from fx) zak
 |_=>exact absurd (show false=true from fy) zak
noncomputable def Ax (x:V)(u:Value):Bool:=match u with
 |.none=>yI .bu x
 |.bool b=>yI (.bl b) x
 |.int i _=>yI (.int i) x
 |.str z _=>yI (.str z) x
 |_=>false
theorem Df (r:bI y u)(f:iu y=true):Ax x u=yI y x:=by
 cases y with
 |bu=>cases r;rfl
 |bl b=>cases r;rfl
 |int i=>obtain⟨t,rfl⟩:=r;rfl
 |str z=>obtain⟨t,rfl⟩:=r;rfl
 |_=>exact absurd (show false=true from f) zak
theorem oA:∀{xs:List V} {us:List Value},bN xs us->xs.all iu=true->us.any (Ax x)=xs.any λy=>yI y x
 |_,_,.nil,_=>rfl
 |y::xs,u::us,.cons r t,f=>by
  rw[zau,zbv] at f;rw[zbZ,zbZ,Df r f.1,oA t f.2]
theorem jG (rx:bI x v)(fx:iu x=true):∀{xs:List V} {us:List Value},bN xs us->xs.all iu=true->∀u∈us,SeqAt.EqAt A s u v (Ax x u)
 |_,_,.nil,_=>λu hu=>by cases hu
 |y::xs,u::us,.cons r t,f=>λu' hu=>by
  rw[zau,zbv] at f;rcases zao.mp hu with rfl|hu
  ·rw[Df r f.1];exact KG r rx f.1 fx
  ·exact jG rx fx t f.2 u' hu
noncomputable def inV (x:V)(xs:List V):Bool:=xs.any λy=>yI y x
noncomputable def rIn (K:PySem.W.Frag)(neg:Bool):R2:=λx y H Q=>∃p xs,y = .ref p/\(iO K H p xs\/nA K H p xs)/\iu x=true/\xs.all iu=true/\Q (.bl (if neg then !inV x xs else inV x xs)) H
theorem HG:jV X (compareOp .In) (rIn X.K false):=by
 intro ah s σ H x y v u Q I rx ry h;obtain⟨p,xs,rfl,hq,fx,fs,q⟩:=h;cases ry;rcases hq with hq|hq
 ·obtain⟨bg,r,pl,hz⟩:=I.list hq
  refine SeqAt.in_listAt (Ax x) pl.isList (λw hw=>jG rx fx r fs w (by simpa using hw)) ⟨.bl _,H,I,rfl,?_⟩
  rw[show bg.toArray.any (Ax x)=bg.any (Ax x) by simp,oA r fs]
  exact q
 ·obtain⟨bg,r,pl,hz⟩:=I.fH hq
  refine SeqAt.in_tupleAt (Ax x) pl (λw hw=>jG rx fx r fs w (by simpa using hw)) ⟨.bl _,H,I,rfl,?_⟩
  rw[show bg.toArray.any (Ax x)=bg.any (Ax x) by simp,oA r fs]
  exact q
theorem yJ:jV X (compareOp .NotIn) (rIn X.K true):=by
 intro ah s σ H x y v u Q I rx ry h;obtain⟨p,xs,rfl,hq,fx,fs,q⟩:=h;cases ry;rcases hq with hq|hq
 ·obtain⟨bg,r,pl,hz⟩:=I.list hq
  refine SeqAt.notIn_listAt (Ax x) pl.isList (λw hw=>jG rx fx r fs w (by simpa using hw)) ⟨.bl _,H,I,rfl,?_⟩
  rw[show bg.toArray.any (Ax x)=bg.any (Ax x) by simp,oA r fs]
  exact q
 ·obtain⟨bg,r,pl,hz⟩:=I.fH hq
  refine SeqAt.notIn_tupleAt (Ax x) pl (λw hw=>jG rx fx r fs w (by simpa using hw)) ⟨.bl _,H,I,rfl,?_⟩
  rw[show bg.toArray.any (Ax x)=bg.any (Ax x) by simp,oA r fs]
  exact q
theorem yK:jV X (compareOp .NotIn) (λx y H Q=>∃i j,x = .str i/\y = .str j/\Q (.bl (!(!(Builtin.Str.occurrences j i 0 j.length 1).isEmpty))) H):=by
 intro ah s σ H x y v u Q I rx ry h;obtain⟨i,j,rfl,rfl,q⟩:=h;obtain⟨t,rfl⟩:=rx;obtain⟨t',rfl⟩:=ry;exact notIn_str ⟨.bl _,H,I,rfl,q⟩
theorem yL:kQ X (.builtin "len") (λxs H Q=>∃p ys,xs=[.ref p]/\(iO X.K H p ys\/nA X.K H p ys)/\Q (.int ys.length) H):=by
 intro ah s σ H xs us Q I r h;obtain⟨p,ys,rfl,hq,q⟩:=h;obtain⟨u,rfl,rx⟩:=qo r;cases rx;have hn:=pC;rcases hq with hq|hq
 ·obtain⟨bg,r',pl,hz⟩:=I.list hq
  have dm:=r'.length;exact Calls.call_len_list pl.isList (by simp only[zan]<;>omega) ⟨.int ys.length,H,I.nZ _,⟨s.toks+1,by rw[zan,dm]⟩,q⟩
 ·obtain⟨bg,r',pl,hz⟩:=I.fH hq
  have dm:=r'.length;exact len_tuple pl (by simp only[zan]<;>omega) ⟨.int ys.length,H,I.nZ _,⟨s.toks+1,by rw[zan,dm]⟩,q⟩
theorem yM:kQ X (.builtin "len") (λxs H Q=>∃z,xs=[.str z]/\z.length<=sizeLine/\Q (.int z.length) H):=by
 intro ah s σ H xs us Q I r h;obtain⟨z,rfl,hz,q⟩:=h;obtain⟨u,rfl,t,rfl⟩:=qo r;have hn:=pC;exact len_str (by omega) ⟨.int z.length,H,I.nZ _,⟨_,rfl⟩,q⟩
theorem yN:kQ X (.type "list") (λxs H Q=>∃p ys,xs=[.ref p]/\(iO X.K H p ys\/nA X.K H p ys)/\∀l,H l=none->Q (.ref l) (bF H l (.bM ys))):=by
 intro ah s σ H xs us Q I r h;obtain⟨p,ys,rfl,hq,q⟩:=h;obtain⟨u,rfl,rx⟩:=qo r;cases rx;have dN:∀(bg:List Value),bN ys bg->ys.length<=sizeLine->∀(h':Heap) (c':Nat),(∀b o',s.heap.get? b=some o'->h'.get? b=some o') ->
   h'.get? s.heap.objs.size=some { cls:=.type "list",dict:=none,data:=.seq bg.toArray c',slots:=#[]}->EP X ah σ Q (.ref s.heap.objs.size) {s with heap:=h' }:=λbg r' hz h' c' kp e =>
  ⟨.ref s.heap.objs.size,_,I.jB (t':=s.toks) kp (zah _) (show cJ X.prog X.w _ h' _ (.bM ys) from ⟨hz,bg,c',r',e⟩),rfl,q _ (I.cA.fresh (zah _))⟩
 rcases hq with hq|hq
 ·obtain⟨bg,r',pl,hz⟩:=I.list hq
  have dm:=r'.length;obtain⟨o,ho,hc,n,hd⟩:=pl.isList;exact call_list_seq p (.inl rfl) ho hc hd (λh' c' kp e=>dN bg r' hz h' c' kp e) (by simp only[zan]<;>omega)
 ·obtain⟨bg,r',pl,hz⟩:=I.fH hq
  have dm:=r'.length;obtain⟨o,ho,hc,n,hd⟩:=pl;exact call_list_seq p (.inr rfl) ho hc hd (λh' c' kp e=>dN bg r' hz h' c' kp e) (by simp only[zan]<;>omega)
noncomputable def tyV (K:PySem.W.Frag)(T:String)(x:V)(H:Hp):Prop:=match x with
 |.str _=>T="str"
 |.int _=>T="int"
 |.ref p=>(T="list" /\ ∃xs,iO K H p xs)\/(T="tuple" /\ ∃o,K.lookup p=some o/\o.cls = .type "tuple" /\ o.dict=none) \/
   (T="dict" /\ ((∃aP,H p=some (.dK aP))\/∃aP,H p=some (.dT aP)))\/(T="set" /\ ∃S n,H p=some (.set S n))
 |_=>False
theorem YV (I:aL X ah σ H s)(r:bI x v)(ty:tyV X.K T x H):
  s.TypeIs v T/\∀a,v = .ref a->∃ob,s.heap.get? a=some ob/\ob.dict=none:=by
 cases x with
 |str z =>
  obtain⟨t,rfl⟩:=r;cases (show T="str" from ty)
  exact⟨typeIs_str s z t,λ_ e=>nomatch e⟩
 |int i =>
  obtain⟨t,rfl⟩:=r;cases (show T="int" from ty)
  exact⟨typeIs_int s i t,λ_ e=>nomatch e⟩
 |ref p =>
  cases r;rcases ty with⟨rfl,xs,hq⟩|⟨rfl,o,hk,hc,hd⟩|⟨rfl,hk⟩|⟨rfl,S,n,hk⟩
  ·obtain⟨bg,_,pl,_⟩:=I.list hq
   refine⟨pl.isList.typeIs,λa e=>?_⟩
   cases e;obtain⟨o,n,e,c,hd,_⟩:=pl;exact⟨o,e,hd⟩
  ·refine⟨⟨o,I.nY p o hk,hc⟩,λa e=>?_⟩
   cases e;exact⟨o,I.nY _ o hk,hd⟩
  ·have z:∃o,s.heap.get? p=some o/\o.ExactDict:=by
    rcases hk with⟨aP,hk⟩|⟨aP,hk⟩
    ·obtain⟨_,_,_,_,o,_,_,e,ex,_⟩:=I.cA p _ hk
     exact⟨o,e,ex⟩
    ·obtain⟨_,_,_,_,o,_,_,e,ex,_⟩:=I.cA p _ hk
     exact⟨o,e,ex⟩
   obtain⟨o,e,ex⟩:=z;refine⟨⟨o,e,ex.1⟩,λa e2=>?_⟩
   cases e2;exact⟨o,e,ex.2.1⟩
  ·obtain⟨o,_,_,_,e,ex,_⟩:=I.cA p _ hk
   refine⟨⟨o,e,ex.1⟩,λa e2=>?_⟩
   cases e2;exact⟨o,e,ex.2.1⟩
 |_=>exact False.elim ty
noncomputable def tBM (K:PySem.W.Frag)(T:String)(r:V->List V->Hp->VK->Prop)(to:TE)(t:TA):TE:=λσ H Q=>to σ H λx H1=>tyV K T x H1/\t σ H1 λxs H2=>r x xs H2 Q
variable {o e:Expr}{es:List Expr}{to:TE}{t:TA}{name:Str}{fN gU:Pos}{T id:String}{r:V->List V->Hp->VK->Prop}
theorem afE (pa:PlainAttrs T)(slot:Slot T name id)(hty:typeOf (.builtin id)=pure (.type "method_descriptor"))(hm:MtR X id r)(ho:PE X o to)(ha:PA X (e::es) t)
  (KH:autoParam (attributeBase o name X.env (eval o X.env)=eval o X.env) zp_0)
  (akN:autoParam (((backTo gU (starEach (e::es) X.env)).all (λx=>!x.1) && (backToKw gU (keywordEach [] X.env)).all (λx=>x.1.isSome)
   && decide ((e::es).length+([]:List Keyword).length+(if ([]:List Keyword).isEmpty then 0 else 1)<30))=true) zp_0)
  (KJ:autoParam ((fN.endLine == gU.line)=true) zp_0) (hs:autoParam (starEach (e::es) X.env=(false,eval e X.env)::starEach es X.env) zp_0) (YW:autoParam ((backTo gU (starEach es X.env)).any (·.1)=false) zp_0):
  PE X (.Call (.Attribute o name fN) (e::es) [] gU) (tBM X.K T r to t):=by
 intro ah s σ H Q I h;refine wpAny_Call_method_late KH akN KJ rfl (cH (ho ah s σ H _ I h) λv s1 ⟨x,H1,I1,r1,ty,q1⟩=>?_)
 obtain⟨h1,h2⟩:=YV I1 r1 ty;refine⟨T,id,pa,slot,hty,h1,h2,?_⟩
 have hA:=ha gU ah s1 σ H1 _ I1 q1;rw[hs] at hA ⊢
 refine zcG (by show (false || (backTo gU (starEach es X.env)).any (·.1))=false;rw[YW]<;>rfl) (zcN ?_)
 exact cH hA λus s2 ⟨vs,H2,I2,r2,q2⟩=>hm ah s2 σ H2 x vs v us Q I2 r1 r2 q2
end
noncomputable def MtM (X:Cx)(id:String)(r:V->List V->Hp->VK->Prop):Prop:=
 ∀(ah:List (Addr×Obj)) (s:Shared) (σ:St) (H:Hp) (x:V) (xs:List V) (v:Value) (us:List Value) (Q:VK),aL X ah σ H s->bI x v->bN xs us->r x xs H Q ->
  wpAny (model X.prog X.w) X.A (call (.builtin id) (v::us)) (EP X ah σ Q) X.xe s
theorem bN.JR:∀{x:V} {us:List Value},bN [x] us->∃u,us=[u]/\bI x u
 |_,_,.cons r .nil=>⟨_,rfl,r⟩
theorem bN.two:∀{x y:V} {us:List Value},bN [x,y] us->∃u v,us=[u,v]/\bI x u/\bI y v
 |_,_,_,.cons r (.cons q .nil)=>⟨_,_,rfl,r,q⟩
theorem aL.afF {bg its':List Value}{n:Nat}{f:Array Value->Array Value}{t':Nat}(I:aL X ah σ H s)(hH:H l=some (.bM xs))
  (e:s.heap.get? l=some { cls:=.type "list",data:=.seq bg.toArray n}) (hf:f bg.toArray=its'.toArray) (hv:bN ys its') (hz:ys.length<=sizeLine):
  aL X ah σ (bF H l (.bM ys)) {s with heap:=s.heap.update l (Obj.mapSeq f),toks:=t' }:=by
 have q:=PySem.IsL.update e f;rw[hf] at q;refine I.jf (x:=l) (e:=l) (by rw[hH];exact trivial) (.inl rfl) (λb' u hb hu=>(zaC s.heap (Obj.mapSeq f) (zbd hb)).trans hu) ⟨_,q⟩ ?_
 exact⟨hz,its',_,hv,q⟩
theorem aL.akP (I:aL X ah σ H s)(hv:bN ys bg)(hz:ys.length<=sizeLine):
  aL X ah σ (bF H s.heap.objs.size (.bM ys)) { s with heap:=s.heap.push { cls:=.type "list",data:=.seq bg.toArray},toks:=t' }:=
 I.jB (λ_ _ q=>zad _ q) (zah _) ⟨hz,bg,0,hv,zap _ rfl⟩
theorem aL.fresh (I:aL X ah σ H s):H s.heap.objs.size=none:=I.cA.fresh (zah _)
theorem aL.HH (I:aL X ah σ H s)(hH:H l=some (.bM xs)):xs.length<=sizeLine/\∃(bg:List Value) (n:Nat),bN xs bg/\xs.length=bg.length/\s.heap.get? l=some { cls:=.type "list",data:=.seq bg.toArray n}:=by
 obtain⟨z,bg,n,r,e⟩:=I.cA l _ hH;exact⟨z,bg,n,r,r.length,e⟩
theorem KL (h:n<=sizeLine):Builtin.List.listTooLong n=false:=by
 unfold Builtin.List.listTooLong;exact decide_eq_false (by omega)
noncomputable def Qn:V->List V->Hp->VK->Prop:=λx vs H Q=>∃l xs y,x = .ref l/\vs=[y]/\H l=some (.bM xs)/\xs.length<sizeLine/\Q .bu (bF H l (.bM (xs++[y])))
theorem wo:MtM X "list.append" Qn:=by
 intro ah s σ H x vs v us Q I rx rv h;obtain⟨l,xs,y,rfl,rfl,hH,hz,q⟩:=h;cases rx;obtain⟨u,rfl,ru⟩:=rv.JR;obtain⟨z,bg,n,r,hl,e⟩:=I.HH hH;refine call_meets F.slot_list_append ⟨_,e,rfl⟩ F.entry_list_append (F.args_list_append_2 _ _) (PySem.list_append l bg.toArray n u (by rw[zan];omega)) ⟨e,?_⟩
 refine⟨.bu,_,I.afF (its':=bg++[u]) hH e (by simp) (r.lJ (.cons ru .nil)) ?_,rfl,q⟩
 rw[zaf,zbi];omega
noncomputable def Qo:V->List V->Hp->VK->Prop:=λx vs H Q=>∃l b xs zs,x = .ref l/\vs=[.ref b]/\H l=some (.bM xs)/\H b=some (.bM zs)/\xs.length+zs.length<=sizeLine/\Q .bu (bF H l (.bM (xs++zs)))
theorem HJ:MtM X "list.extend" Qo:=by
 intro ah s σ H x vs v us Q I rx rv h;obtain⟨l,b,xs,zs,rfl,rfl,hH,hB,hz,q⟩:=h;cases rx;obtain⟨u,rfl,ru⟩:=rv.JR;cases ru;obtain⟨z,bg,n,r,hl,e⟩:=I.HH hH;obtain⟨z2,g8,n2,r2,JJ,e2⟩:=I.HH hB;have hsz:bg.toArray.size+g8.toArray.size<=sizeLine:=by rw[zan,zan];omega
 have afG:¬ (!bg.toArray.isEmpty && Builtin.List.listTooLong (bg.toArray.size+g8.toArray.size))=true:=by
  rw[KL hsz,zdX];exact zak
 refine call_meets F.slot_list_extend ⟨_,e,rfl⟩ F.entry_list_extend (F.args_list_extend_2 _ _)
  (AutoSeq1.list_extend_list_list_0 l bg.toArray n b g8.toArray n2 afG (by rw[zan];omega) (by omega)) ⟨e,e2,?_⟩
 refine⟨.bu,_,I.afF (its':=bg++g8) hH e (by simp) (r.lJ r2) ?_,rfl,q⟩
 rw[zaf];omega
noncomputable def akQ:R2:=λx y H Q=>∃l b xs zs,x = .ref l/\y = .ref b/\H l=some (.bM xs)/\H b=some (.bM zs)/\xs.length+zs.length<=sizeLine/\∀p,H p=none->Q (.ref p) (bF H p (.bM (xs++zs)))
theorem KN:jV X (binaryOp .Add) akQ:=by
 intro ah s σ H x y v u Q I rx ry h;obtain⟨l,b,xs,zs,rfl,rfl,hH,hB,hz,q⟩:=h;cases rx;cases ry;obtain⟨z,bg,n,r,hl,e⟩:=I.HH hH;obtain⟨z2,g8,n2,r2,JJ,e2⟩:=I.HH hB;refine PySem.P.add_list e e2 ?_ (by rw[zan,zan];omega)
 have ea:bg.toArray++g8.toArray=(bg++g8).toArray:=by simp
 rw[ea];exact⟨.ref _,_,I.akP (t':=s.toks) (r.lJ r2) (by rw[zaf];omega),rfl,q _ I.fresh⟩
end L2
namespace Att
open PySem PySem.W PySem.Calls PyProof.Rows
theorem qP:∀(ns:List Int) (vs:List Value),WellAll P h vs (ns.map WData.int)->IntsAre vs ns:=by
 intro ns;induction ns with
 |nil =>
  intro vs w;rw[zbM] at w;cases w;exact .nil
 |cons n ns ih =>
  intro vs w;rw[zas] at w;cases w with
  |cons a b =>
   cases a;exact .cons _ _ (ih _ b)
theorem HK {l:OpenLaw}{n:Nat}(hn:l.most=some n){P:Params}{h:Heap}{args:List WData}{YX:List Value}
  (Qp:l.row.toRowW.claim.pre args=true) (hwl:WellAll P h YX args):
  ∃a vs ns,YX=[Value.ref a]/\args=[WData.list (ns.map WData.int)]/\h.get? a=some { cls:=.type "list",data:=.seq vs.toArray}/\IntsAre vs ns/\ns.length<=n:=by
 have hsh:WShape.hasAll [] args [.list .int]=true:=(pre_splitW Qp).1
 have hc:l.pre.holds [] {args:=args}=true:=(pre_splitW Qp).2
 obtain⟨d,r,rfl,h1,h2⟩:=hasAllW_cons hsh;obtain rfl:=hasAllW_nil h2
 obtain⟨xs,rfl,h3⟩:=hasW_list h1;obtain⟨ns,rfl⟩:=items_int h3;have dm:ns.length<=n:=by
  unfold OpenLaw.pre at hc;have h4:(WTm.not (.lt (.lit (.int (n:Int))) (.len (.arg 0)))).holds [] {args:=[.list (ns.map .int)]}=true:=by
   have h4:=(holds_andW hc).1
   rw[hn] at h4;exact h4
  have h5:=condW_of h4 (w_not (w_lt w_lit (w_len_list (w_arg rfl))))
  rw[zac] at h5;refine Nat.le_of_not_lt λq=>?_
  have q':(n:Int)<((ns.length:Nat):Int):=by omega
  first
   | (rw[decide_eq_true q'] at h5;exact absurd h5 (by decide))
   | (simp at h5;omega)
 cases hwl with
 |cons w1 w2 =>
  cases w2;cases w1 with
  |list ho Kw=>exact⟨_,_,ns,rfl,rfl,ho,qP ns _ Kw,dm⟩
theorem HL (l:OpenLaw)(args:List WData):l.row.toRowW.claim.post args (.bool true) args=true:=
 postW_of (r:=l.row.toRowW) (X:=(true == true))
  (show WShape.has [] (.bool true) .bool=true by first|rfl|decide|simp[WShape.has,WShape.arms,WShape.armsAll])
  (show (WTm.eq .res (.lit (.bool true))).value [] {args:=args,res:=some (.bool true),after:=args}=some (.bool (true == true)) from w_eq_bool (w_res rfl) w_lit) rfl
theorem Ay {l:OpenLaw}{n:Nat}{q:Program}{wu:List Str}{XP:(Str->Option Value)->Heap->Prop}{YP:World->Heap->Prop}{d:DefRec}
  (hn:l.most=some n) (hdf:d.params.defaults=[])
  (call:∀(w:World) (s₀ cF:Shared) (mg mb:Str->Option Value) (fa:Addr) (o:Obj) (pm cd nD:Value) (a:Addr) (vs:List Value) (ns:List Int),
   Ground q wu [] XP w s₀ mg mb cF.heap->YP w cF.heap ->
   cF.heap.get? fa=some o->o.data = .func (docDef d.name d.params d.body d.scope pm cd nD)->cF.heap.CodeRec cd d.name->mg d.name=some (.ref fa) ->
   cF.heap.get? a=some { cls:=.type "list",data:=.seq vs.toArray}->IntsAre vs ns->ns.length<=n->cF.gens = #[] ->
   codeAny (model l.prog w) callerA (.call (.ref fa) ⟨[.ref a],[]⟩) (λr s'=>r = .ok (.ret (.bool true))/\OldK cF.heap s'.heap/\s'.os=cF.os/\AllBare s'.gens) cF):
  WalkO q wu XP YP l.row.toRowW d [] (λf vs=>PySem.call f vs):=by
 intro w s₀ cF mg mb G Y fa o pm cd nD dV kV ho hd Aj hD hmg hg args YX as Qp apo hrd hwl hlo;obtain rfl:dV = .none:=Dflts.none hD hdf
 obtain rfl:kV = .none:=Dflts.noKw hD
 obtain⟨a,vs,ns,rfl,rfl,YY,KP,dm⟩:=HK hn Qp hwl;refine enter_call (zcv (call w s₀ cF mg mb fa o pm cd nD a vs ns G Y ho (fd_plain hd) Aj hmg YY KP dm hg) λr s' hq=>?_)
 obtain⟨rfl,h2,h3,h4⟩:=hq;exact⟨.inl ⟨.bool true,.bool true,[],rfl,λ_=>rfl,.bool true,HL l _,λ_=>⟨List.Pairwise.nil,λ_ hm=>(nomatch hm)⟩⟩,h2,h3,h4⟩
section
variable {prog:Program}{w:World}{A:Around}{E:Value->Shared->Prop}{s:Shared}{K:Frag}
end
end Att
namespace L2
open PySem PySem.Spec PyProof.Rows
theorem wz:∀{vs:List Value} {ns:List Int},IntsAre vs ns->bN (ns.map V.int) vs
 |_,_,.nil=>.nil
 |_,_,.cons n t h=>.cons ⟨t,rfl⟩ (wz h)
noncomputable def aU (H:Hp):Prop:=∀b,H b=none\/∃o xs,H b=some (.qY o (.bM xs))
theorem KQ {P:Program}{w:World}{K:PySem.W.Frag}{mg mb:Str->Option Value}{CX:CA}{k:Nat}{fa a:Addr}{fd:FuncData}{x:Str}{sp:Sp}{cF:Shared}{vs:List Value}{ns:List Int}
  (KX:K.In cF.heap) (JK:cF.heap.Ns mainGlobals mg) (hb:cF.heap.Ns builtinsNs mb) (hbb:∀x:Str,x ≠ "__name__" -> mb x=bootBuiltins x) (akT:cF.heap.NoLimit) (hg:cF.gens = #[])
  (ha:cF.heap.get? a=some { cls:=.type "list",data:=.seq vs.toArray}) (hi:IntsAre vs ns) (hl:ns.length<=sizeLine) (hr:gE k callerA)
  (F:∀base:Heap,K.In base->base.Ns mainGlobals mg->aN P w K mg base CX k fa fd [x] sp) (afI:∀(s:Shared) (u:Value),BindsTo s fd ⟨[u],[]⟩ [(x,u)])
  (JI:∀H:Hp,aU H->iO K H a (ns.map V.int)->sp [.ref a] H (λv _=>v = .bl true) λ_ _ _=>False)
  (hCX:∀H e s',CX [] H cF (λ_ _ _=>False) e s'->False):
  codeAny (model P w) callerA (.call (.ref fa) ⟨[.ref a],[]⟩) (λr s'=>r = .ok (.ret (.bool true))/\OldK cF.heap s'.heap/\s'.os=cF.os/\AllBare s'.gens) cF:=by
 have rv:=wz hi;have akV:=hi.length;-- from an abstract heap in anM ajz but CO JT may be oh
 have HM:∀H:Hp,aU H->iO K H a (ns.map V.int)->mD P w H cF.heap->(∀b,H b≠none->b=a)->(H a≠none->K.lookup a=none) ->
   codeAny (model P w) callerA (.call (.ref fa) ⟨[.ref a],[]⟩) (λr s'=>r = .ok (.ret (.bool true))/\OldK cF.heap s'.heap/\s'.os=cF.os/\AllBare s'.gens) cF:=by
  intro H hO hS cA hA hK;have E9:∀{b:Addr} {o:Obj},cF.heap.get? b=some o->H b=none->(yx cF.heap H).get? b=some o:=λe n=>JU e n
  have noA:∀{b:Addr} {o:Obj} {es:Array DictEntry} {ep:Nat},cF.heap.get? b=some o->o.data = .dict es ep->H b=none:=λ{b o es ep} e d=>by
   cases q:H b with
   |none=>rfl
   |some u =>
    have e':b=a:=hA b (by rw[q];simp)
    subst e';rw[ha] at e;cases e
    have d':Data.seq vs.toArray _=Data.dict es ep:=d
    cases d'
  have nsK:∀{b:Addr} {m:Str->Option Value},cF.heap.Ns b m->(yx cF.heap H).Ns b m:=λ{b m} ⟨o,es,ep,e,d,r⟩=>⟨o,es,ep,E9 e (noA e d),d,r⟩
  have hKb:K.In (yx cF.heap H):=λb o e=>E9 (KX b o e) (by
   cases q:H b with
   |none=>rfl
   |some u =>
    have e':b=a:=hA b (by rw[q];simp)
    subst e';rw[hK (by rw[q];simp)] at e;cases e)
  have hM:Mod K mg (yx cF.heap H):=⟨hKb,nsK JK,⟨mb,nsK hb,hbb⟩,let ⟨mc,h1,h2⟩:=akT;⟨mc,nsK h1,h2⟩⟩
  have e0:C5 P w K mg (yx cF.heap H) callerA [] cF H:=⟨rfl,hM,λb o e=>Pn e,Nat.le_of_eq (Ht _ _),trivial,λb hb=>absurd (show b∈([]:List Addr) from hb) (by simp),cA,.of_eq hg⟩
  refine zcv ((F _ hKb (nsK JK)).jW callerA [] cF H ⟨[.ref a],[]⟩ [.ref a] [.ref a] _ _ hr e0 (afI cF (.ref a)) (.cons rfl .nil) (JI H hO hS)) λr s' h=>?_
  cases r with
  |error e=>exact (hCX H e s' h).elim
  |ok fl =>
   cases fl with
   |next=>exact False.elim h
   |brk=>exact False.elim h
   |cont=>exact False.elim h
   |ret u =>
    obtain⟨v,H',os,g7,un,akW,r',q⟩:=h;have q':v = .bl true:=q
    subst q';obtain rfl:u=Value.bool true:=r'
    refine⟨rfl,OldK.of_keep λb o e=>?_,os,g7⟩
    cases q:H b with
    |none=>exact un.keep b o e q (by intro z;exact absurd (show b∈([]:List Addr) from z) (by simp)) (by simp)
    |some u =>
     rcases hO b with z|⟨ob,xs,z⟩
     ·rw[q] at z;cases z
     ·have z2:=un.qM b ob _ z
      obtain⟨e1,_⟩:=cA b _ z;obtain⟨e2,_⟩:=akW b _ z2;rw[e] at e1;cases e1
      exact e2
 cases hk:K.lookup a with
 |some o =>
  -- CO JT is JR of CO afJ rO PD
  have e:=KX a o hk;rw[ha] at e;cases e;refine HM (λ_=>none) (λ_=>.inl rfl) (.inr ⟨_,vs.toArray,_,hk,rfl,rfl,rfl,by rw[zan,akV];exact hl,by simpa using rv⟩) (λb u z=>by have z':(none:Option HO)=some u:=z;cases z') (λb z=>absurd rfl z) λz=>absurd rfl z
 |none =>
  refine HM (λb=>if b=a then some (.qY { cls:=.type "list",data:=.seq vs.toArray} (.bM (ns.map V.int))) else none) (λb=>?_) (.inl (.inr ⟨{ cls:=.type "list",data:=.seq vs.toArray},if_pos rfl⟩)) (λb u z=>?_) (λb z=>?_) λ_=>hk
  ·by_cases hb:b=a
   ·exact .inr ⟨_,_,if_pos hb⟩
   ·exact .inl (if_neg hb)
  ·by_cases hb:b=a
   ·have z':=(if_pos hb).symm.trans z
    cases z';subst hb;exact⟨ha,by rw[zac];exact hl,vs,_,rv,ha⟩
   ·have z':=(if_neg hb).symm.trans z
    cases z'
  ·by_cases hb:b=a
   ·exact hb
   ·exact absurd (if_neg hb) z
theorem Qq {l:PySem.W.OpenLaw}{n k:Nat}{q:Program}{wu:List Str}{XP:(Str->Option Value)->Heap->Prop}{YP:World->Heap->Prop}{d:DefRec}{K:Params->PySem.W.Frag}{CX:World->CA}{sp:World->Sp}{x:Str}
  (hn:l.most=some n) (JG:n<=sizeLine) (hdf:d.params.defaults=[]) (hr:gE k callerA)
  (hY:∀(w:World) (h:Heap),YP w h->(K w.params).In h)
  (F:∀(w:World) (mg:Str->Option Value) (fa:Addr) (h:Heap),(K w.params).In h->h.Ns mainGlobals mg->mg d.name=some (.ref fa) ->
   ∃fd:FuncData,(∀(s:Shared) (u:Value),BindsTo s fd ⟨[u],[]⟩ [(x,u)]) /\
    ∀base:Heap,(K w.params).In base->base.Ns mainGlobals mg->aN l.prog w (K w.params) mg base (CX w) k fa fd [x] (sp w))
  (JI:∀(w:World) (H:Hp) (a:Addr) (ns:List Int),ns.length<=n->aU H->iO (K w.params) H a (ns.map V.int)->sp w [.ref a] H (λv _=>v = .bl true) λ_ _ _=>False)
  (hCX:∀(w:World) (H:Hp) (s:Shared) (e:Value) (s':Shared),CX w [] H s (λ_ _ _=>False) e s'->False):
  PySem.W.WalkO q wu XP YP l.row.toRowW d [] (λf vs=>PySem.call f vs):=by
 refine Att.Ay hn hdf λw s₀ cF mg mb fa o pm cd nD a vs ns G Y ho hd Aj hmg YY KP dm hg=>?_
 have KX:=hY w _ Y;obtain⟨fd,hb,hF⟩:=F w mg fa _ KX G.T.g hmg;exact KQ KX G.T.g G.T.b G.T.builtins G.T.nolimit hg YY KP (zai dm JG) hr hF hb (λH hO hS=>JI w H a ns dm hO hS) λH e s'=>hCX w H cF e s'
noncomputable def aM (s:Stmt)(j:Nat):Stmt:=match s with
 |.ClassDef _ _ _ body _ _ _ _ _ _ _=>body.getD j (.Pass ⟨0,0,0,0⟩)
 |_=>.Pass ⟨0,0,0,0⟩
noncomputable def dX (s:Stmt):Arguments:=match s with
 |.FunctionDef _ a _ _ _ _ _ _ _ _=>a
 |_=>{posonlyargs:=[],args:=[],vararg:=none,kwonlyargs:=[],kw_defaults:=[],kwarg:=none,defaults:=[]}
noncomputable def cP (s:Stmt):List Stmt:=match s with
 |.FunctionDef _ _ b _ _ _ _ _ _ _=>b
 |_=>[]
noncomputable def aj (s:Stmt):Scope:=match s with
 |.FunctionDef _ _ _ _ _ _ sc _ _ _=>sc
 |_=>{kind:=.function,names:=[],isGenerator:=false,isCoroutine:=false}
noncomputable abbrev dM:CA:=λ_ _ _ _ _ _=>False
noncomputable abbrev E0:XK:=λ_ _ _=>False
structure KS (K:PySem.W.Frag) (x b_:Str) (st:Stmt) (f:Addr) (fd:FuncData):Prop where
 ex:∃(oc:Value) (od:Option Addr) (kV nD pm:Value) (an:Option Addr) (eY ct:Value) (C7:Array (Option Value)),
  fd=PySem.W.fnOf x b_ (dX st) (cP st) (aj st) .none kV nD pm an eY ct/\K.lookup f=some ⟨oc,od,.func fd,C7⟩/\PySem.W.codeIn K eY b_=true
 kp:PySem.W.keepIn K (.ref f)=true
section
variable {P:Program}{w:World}{K:PySem.W.Frag}{mg:Str->Option Value}{base:Heap}
theorem KS.ok {x b_:Str}{st:Stmt}{f:Addr}{fd:FuncData}{N ps:List Str}{k:Nat}{sp:Sp}(F:KS K x b_ st f fd)(S:aq N ps (aj st))(len:∀vs H Q E,sp vs H Q E->vs.length=ps.length)
  (sj:∀(eY:Value) (A:Around) (outer:List Env) (s:Shared) (H:Hp) (vs:List V) (Q:VK) (E:XK),gE k (A.deeper (envOfC b_ (aj st) s.heap.objs.size f eY))->sp vs H Q E ->
   ∃t,vY (je dM P w K mg base N b_ (aj st) f eY A outer s H E).Cz (cP st) t/\t {nx:=λ_ H'=>Q .bu H',rt:=Q} (cS N vs) H):aN P w K mg base dM (k+1) f fd ps sp:=by
 obtain⟨oc,od,kV,nD,pm,an,eY,ct,C7,rfl,lk,Aj⟩:=F.ex;refine Kp lk Aj S len λA outer s H vs Q E hr JI=>?_
 obtain⟨t,h,q⟩:=sj eY A outer s H vs Q E hr JI;exact⟨t,h.Cz,q⟩
theorem KS.qt {x b_:Str}{st:Stmt}{f:Addr}{fd:FuncData}{ps:List Str}(F:KS K x b_ st f fd)
  (h:∀(kV nD pm:Value) (an:Option Addr) (eY ct:Value) (us:List Value),us.length=ps.length->bindArgs (PySem.W.fnOf x b_ (dX st) (cP st) (aj st) .none kV nD pm an eY ct) ⟨us,[]⟩=pure (ps.zip us)):eB K fd ps []:=by
 obtain⟨oc,od,kV,nD,pm,an,eY,ct,C7,rfl,lk,Aj⟩:=F.ex;exact .all (h kV nD pm an eY ct)
theorem yO {x b_:Str}{st:Stmt}{f:Addr}{oc:Value}{od an:Option Addr}{C7:Array (Option Value)}{kV nD pm eY ct:Value}(l:K.lookup f=some ⟨oc,od,.func (PySem.W.fnOf x b_ (dX st) (cP st) (aj st) .none kV nD pm an eY ct),C7⟩)
  (c:PySem.W.codeIn K eY b_=true) (k:PySem.W.keepIn K (.ref f)=true):KS K x b_ st f (PySem.W.fnOf x b_ (dX st) (cP st) (aj st) .none kV nD pm an eY ct):=⟨⟨oc,od,kV,nD,pm,an,eY,ct,C7,rfl,l,c⟩,k⟩
end
theorem pv (i:Nat)(hN:autoParam (X.N[i]? = some x) zp_0)(hv:autoParam (Vis X.env.scope x) zp_7)(hd:autoParam ((x == ("__debug__" : Str))=false) zp_1)
  (Aj:autoParam ((x == ("__classdict__" : Str))=false) zp_1):PE X (.Name x pos) (aeN i):=JZ hN hv hd Aj
theorem HN:kQ X (.builtin "len") (λxs H Q=>∃a aP,xs=[V.ref a]/\H a=some (.dK aP)/\Q (.int aP.length) H):=by
 intro ah s σ H xs us Q I r h;obtain⟨a,aP,rfl,ha,q⟩:=h;obtain⟨u,rfl,ru⟩:=qo r;cases ru;exact afq I (.inl ha) λt s' I'=>⟨.int aP.length,H,I',⟨t,rfl⟩,q⟩
theorem Az {A B:Prop}(h:B):if false=true then A else B:=by
 rw[if_neg zak];exact h
theorem AA {A B:Prop}(h:A):if true=true then A else B:=by
 rw[if_pos rfl];exact h
section
variable {κ:Type}[DecidableEq κ]
end
noncomputable def oE (env:Env):List (Str×NameKind)->List (Str×Addr)->List (Str×Addr)
 |[],cs=>cs
 | (n,k)::r,cs=>oE env r (if (k == NameKind.free)=true then (match env.cells.lookup n with|some c=>(n,c)::cs|none=>cs) else cs)
theorem Dg (h:∀p∈scope.names,p.2 = .free->∃c,env.cells.lookup p.1=some c):closureFor scope env=pure (oE env scope.names []):=by
 have key:∀(l:List (Str×NameKind)) (cs:List (Str×Addr)),(∀p∈l,p.2 = .free->∃c,env.cells.lookup p.1=some c) ->
   (forIn l cs λ(x:Str×NameKind) (r:List (Str×Addr))=>match x with
    | (name,kind)=>if (kind == NameKind.free)=true then do let a <-cellOf env name;pure (ForInStep.yield ((name,a)::r)) else pure (ForInStep.yield r):Sem (List (Str×Addr)))=pure (oE env l cs):=by
  intro l;induction l with
  |nil=>intro cs _;rfl
  |cons p r ih =>
   intro cs hl;obtain⟨n,k⟩:=p;rw[List.forIn_cons];have hr:=λcs=>ih cs λq hq=>hl q (zaM _ hq)
   show (_ >>= _)=pure (oE env r (if (k == NameKind.free)=true then (match env.cells.lookup n with|some c=>(n,c)::cs|none=>cs) else cs))
   by_cases hk:(k == NameKind.free)=true
   ·obtain⟨c,hc⟩:=hl (n,k) zbK (by simpa using hk)
    dsimp only at hc ⊢
    rw[if_pos hk,if_pos hk,hc];have e:cellOf env n=pure c:=by unfold cellOf;rw[hc]
    rw[e,pure_bind,pure_bind];exact hr _
   ·dsimp only
    rw[if_neg hk,if_neg hk,pure_bind];exact hr _
 unfold closureFor;rw[show (pure (oE env scope.names []):Sem (List (Str×Addr)))=(pure (oE env scope.names []) >>= λr=>pure r) from (bind_pure _).symm,<-key scope.names [] h]
theorem lQ:∀{l:List (Str×NameKind)} {cs:List (Str×Addr)},(oE env l cs).lookup x=some c->cs.lookup x=some c\/env.cells.lookup x=some c
 |[],_,h=>.inl h
 | (n,k)::r,cs,h=>by
  rcases lQ (l:=r) h with q|q
  ·by_cases hk:(k == NameKind.free)=true
   ·rw[if_pos hk] at q
    cases e:env.cells.lookup n with
    |none=>rw[e] at q;exact .inl q
    |some d =>
     rw[e] at q;dsimp only at q
     rw[zaR] at q;cases hx:x == n with
     |true =>
      rw[hx] at q;have:x=n:=by simpa using hx
      subst this;dsimp only at q
      rw[<-q];exact .inr e
     |false=>rw[hx] at q;exact .inl q
   ·rw[if_neg hk] at q;exact .inl q
  ·exact .inr q
theorem sD:∀{l:List (Str×NameKind)} {cs:List (Str×Addr)},((x,NameKind.free)∈l/\(∃c,env.cells.lookup x=some c))\/(∃c,cs.lookup x=some c)->∃c,(oE env l cs).lookup x=some c
 |[],cs,h=>by
  rcases h with⟨h,_⟩|h
  ·exact absurd h (by simp)
  ·exact h
 | (n,k)::r,cs,h=>by
  refine sD (l:=r) ?_
  rcases h with⟨h,hc⟩|h
  ·rcases zao.mp h with e|h
   ·have e1:x=n:=congrArg (·.1) e
    have e2:NameKind.free=k:=congrArg (·.2) e
    subst e1 e2;obtain⟨c,hc⟩:=hc;refine .inr ⟨c,?_⟩
    rw[if_pos (by decide),hc]
    simp[zaR]
   ·exact .inl ⟨h,hc⟩
  ·obtain⟨c,hc⟩:=h
   right
   by_cases hk:(k == NameKind.free)=true
   ·rw[if_pos hk]
    cases e:env.cells.lookup n with
    |none=>exact⟨c,hc⟩
    |some d =>
     dsimp only;rw[zaR];cases hx:x == n with
     |true=>exact⟨d,rfl⟩
     |false=>exact⟨c,hc⟩
   ·rw[if_neg hk];exact⟨c,hc⟩
theorem jY {env:Env}:∀{names:List (Str×NameKind)} {k:NameKind},
  (names.map λ(p:Str×NameKind)=>match p with | (n,k)=>if (k == NameKind.free && env.scope.kind == .function && env.kindOf n == some .cell)=true then (n,NameKind.cell) else (n,k)).lookup x=some k ->
  ∃k',names.lookup x=some k'/\(k'=k\/(k' = .free/\k = .cell))
 |[],_,h=>by simp at h
 | (n,k0)::r,k,h=>by
  rw[zas] at h;by_cases hc:(k0 == NameKind.free && env.scope.kind == .function && env.kindOf n == some .cell)=true
  ·dsimp only at h
   rw[if_pos hc,zaR] at h;rw[zaR];cases hx:x == n with
   |true =>
    rw[hx] at h;have e:NameKind.cell=k:=zav h
    have e0:k0 = .free:=by
     simp only[zbv,beq_iff_eq] at hc;exact hc.1.1
    exact⟨k0,rfl,.inr ⟨e0,e.symm⟩⟩
   |false=>rw[hx] at h;exact jY (names:=r) h
  ·dsimp only at h
   rw[if_neg hc,zaR] at h;rw[zaR];cases hx:x == n with
   |true=>rw[hx] at h;exact⟨k0,rfl,.inl (zav h)⟩
   |false=>rw[hx] at h;exact jY (names:=r) h
theorem jZ {env:Env}:∀{names:List (Str×NameKind)},names.lookup x=some .free ->
  (names.map λ(p:Str×NameKind)=>match p with | (n,k)=>if (k == NameKind.free && env.scope.kind == .function && env.kindOf n == some .cell)=true then (n,NameKind.cell) else (n,k)).lookup x=some .cell \/
  (names.map λ(p:Str×NameKind)=>match p with | (n,k)=>if (k == NameKind.free && env.scope.kind == .function && env.kindOf n == some .cell)=true then (n,NameKind.cell) else (n,k)).lookup x=some .free
 |[],h=>by simp at h
 | (n,k0)::r,h=>by
  rw[zas];rw[zaR] at h;by_cases hc:(k0 == NameKind.free && env.scope.kind == .function && env.kindOf n == some .cell)=true
  ·dsimp only
   rw[if_pos hc,zaR];cases hx:x == n with
   |true=>exact .inl rfl
   |false=>rw[hx] at h;exact jZ (names:=r) h
  ·dsimp only
   rw[if_neg hc,zaR];cases hx:x == n with
   |true=>rw[hx] at h;exact .inr h
   |false=>rw[hx] at h;exact jZ (names:=r) h
theorem yP (I:Nat->Shared->Prop)
  (J6:∀n s,I n s->wpAny (model prog w) A (pyNext it) (λr cF=>match r with
   |none=>R (.ok .next) cF
   |some v=>wpAny (model prog w) A (letOwnedTupleGo target it v) (λ_ Um=>wpAny (model prog w) A (assign target env v) (λ_ lM =>
     wpAny (model prog w) A (forIn qQ true λc r=>if r=true then do let ok <-isTrue c env (eval c env);pure (ForInStep.yield ok) else pure (ForInStep.yield r)) (λok vH =>
      if ok=true then wpAny (model prog w) A (eval vJ env) (λx afK =>
       wpAny (model prog w) A (call (.builtin "list.append") [cg,x]) (λ_ afL=>∃m,m<n/\I m afL) (notedBy (model prog w) A env λe s'=>R (.error e) s') afK) (notedBy (model prog w) A env λe s'=>R (.error e) s') vH
      else ∃m,m<n/\I m vH) (notedBy (model prog w) A env λe s'=>R (.error e) s') lM) (notedBy (model prog w) A env λe s'=>R (.error e) s') Um) (notedBy (model prog w) A env λe s'=>R (.error e) s') cF) (notedBy (model prog w) A env λe s'=>R (.error e) s') s)
  (n:Nat) (h:I n s):
  codeAny (model prog w) A (.compLoop (.ListComp vJ [⟨target,dW,qQ,0⟩] scope pos) 0 it cg env) R s:=by
 refine codeAny_loop rfl I (λn s hI=>?_) n h
 show wpAny _ A ((compTurn (.ListComp vJ [⟨target,dW,qQ,0⟩] scope pos) 0 it cg env).onRaise (λx=>do noteFrame x env;theTreesLotGoes x)) _ _ s
 refine wpAny_noted ?_
 rw[compTurn_list];refine zaa (zcH (zaa (zaI (J6 n s hI) (λr cF P9=>?_) λ_ _ h'=>h')))
 cases r with
 |none=>exact zag P9
 |some v =>
  refine zaa (zaI P9 (λ_ Um afM=>?_) λ_ _ h'=>h')
  refine zaa (zaI afM (λ_ lM Ks=>zaa (zaI Ks (λok vH P_=>?_) λ_ _ h'=>h')) λ_ _ h'=>h')
  cases ok with
  |false=>exact zag ⟨rfl,P_⟩
  |true =>
   exact zaa (zaa (zaI P_ (λx afK akX=>zaa (zaI akX (λ_ afL akY=>zag (zag ⟨rfl,akY⟩)) λ_ _ h'=>h')) λ_ _ h'=>h'))
noncomputable def qx (X:Cx)(N:List Str)(sc:Scope)(C:Addr)(fp:List Addr)(s:Shared)(H:Hp)(xe:Value->Shared->Prop):Cx:=
 {X with N:=N,s₀:= s,H₀:= H,env:=compEnvC sc (oE X.env sc.names []) C X.env,outer:=X.c8,ex:=fp,fn:=λ_=>false,pn:=[],xe:=xe}
noncomputable def Dh (X:Cx)(qQ:List Expr)(t:TT):Prop:=
 ∀(ah:List (Addr×Obj)) (s:Shared) (σ:St) (H:Hp) (Q:Bool->Hp->Prop),aL X ah σ H s->t σ H Q ->
  wpAny (model X.prog X.w) X.A (forIn qQ true λc r=>if r=true then do let ok <-isTrue c X.env (eval c X.env);pure (ForInStep.yield ok) else pure (ForInStep.yield r)) (TP X ah σ Q) X.xe s
noncomputable def afN:TT:=λ_ H Q=>Q true H
theorem Qs:Dh X [] afN:=λah s σ H Q I h=>wpAny_tests_nil ⟨H,I,h⟩
theorem Qt (h:PT X c t):Dh X [c] t:=λah s σ H Q I q=>wpAny_tests_one (h ah s σ H Q I q)
structure dw (X:Cx) (F T:List Str) (fr:List Nat) (sc:Scope):Prop where
 kind:sc.kind = .function
 KU:∀y∈sc.names,y.2 ≠ .cell
 locals:∀y∈sc.names,y.2 = .local->sc.names.lookup y.1=some .local
 KW:∀y∈sc.names,y.2 = .free->X.env.kindOf y.1=some .cell
 YZ:∀x∈F,sc.names.lookup x=some .free
 eqs:fr.map (λj=>X.N[j]?)=F.map some
theorem dw.len (S:dw X F T fr sc):fr.length=F.length:=by
 have:=congrArg List.length S.eqs
 simpa using this
theorem dw.qO (S:dw X F T fr sc)(i:Nat)(x:Str)(h:F[i]? = some x):∃j,fr[i]? = some j/\X.N[j]? = some x:=by
 have e:=congrArg (λl=>l[i]?) S.eqs
 simp only[zaq,h,zct] at e;cases q:fr[i]? with
 |none=>rw[q] at e;cases e
 |some j=>rw[q] at e;exact⟨j,rfl,zav e⟩
noncomputable def j6 (fr:List Nat)(T:List Str)(σ:St):St:=(fr.map λj=>(σ[j]?).join)++T.map λ_=>none
noncomputable def E_ (wi:TI)(fr:List Nat)(T:List Str)(g:TG)(ti:TT)(te:TE):TE:=λσ H Q=>wi σ H λJ H1=>∀D,H1 D=none ->
  ∃W:Nat->Nat->St->List V->Hp->Prop,(∃m,W 0 m (j6 fr T σ) [] (bF H1 D (.bM [])))/\∀i m dS xs H',W i m dS xs H'->H' D=some (.bM xs) /\
    ((J.stop i H'/\Q (.ref D) H')\/(J.go i H'/\∃N:St->List V->Hp->Prop,(∀z_ ys H2,N z_ ys H2->∃m',m' < m/\W (i+1) m' z_ ys H2)/\∀x H2,J.yld i H' x H2->g x dS H2 λz_ H3=>ti z_ H3 λb H4 =>
      if b=true then te z_ H4 λv H5=>H5 D=some (.bM xs)/\xs.length<sizeLine/\N z_ (xs++[v]) (bF H5 D (.bM (xs++[v]))) else N z_ xs H4))
theorem Y0 (S:dw X F T fr sc)(I:aL X ah σ H s)
  (Uo:∀b∈fp,pB X ah H b) (hfo:∀b∈fp,b<s.heap.objs.size):(qx X (F++T) sc s.heap.objs.size fp s H xe).Ok:=by
 have cl:∀x c,(oE X.env sc.names []).lookup x=some c->X.env.cells.lookup x=some c:=λx c e=>(lQ e).resolve_left (by simp)
 refine⟨I.ok.rS,?_,I.ok.rR,I.ok.Ua,zah _,λx y c h1 h2=>I.ok.inj x y c (cl _ _ h1) (cl _ _ h2),λx hx=>?_,λ_ _ h=>?_,I.ok.hd,I.ok.frames,.inl rfl,λb hb=>⟨zar (hfo b hb),λx c e=>(Uo b hb).2.2.2.2.1 x c (cl _ _ e)⟩,I.bs,zai I.ok.O_ I.sz,λb o e hb=>?_,λb hb=>?_,I.c8,I.ER⟩
 ·show (relabel sc X.env).kind=_
  exact S.kind
 ·have Up:∃k,(relabel sc X.env).names.lookup x=some k/\(k = .cell\/k = .free):=by
   rcases hx with h|h
   ·exact⟨_,h,.inl rfl⟩
   ·exact⟨_,h,.inr rfl⟩
  obtain⟨k,hk,hkk⟩:=Up;obtain⟨k',h1,h2⟩:=jY (env:=X.env) hk
  have hf:k' = .free:=by
   rcases h2 with h2|h2
   ·rcases hkk with z|z
    ·exact absurd (by rw[h2,z]) (S.KU _ (zaZ h1))
    ·rw[h2,z]
   ·exact h2.1
  rw[hf] at h1;have hm:=zaZ h1;refine sD (.inl ⟨hm,?_⟩)
  exact I.ok.has x (.inl (S.KW _ hm rfl))
 ·exact absurd h (by show ¬ (false=true);decide)
 ·rcases (Uo b hb).2.2.2.1 with z|z
  ·exact I.ok.jd b o e z
  ·exact absurd (zal (zam (I.ok.bs b o e).1) z) (zaP _)
 ·intro z
  rcases zao.mp (I.CS b z) with q|q
  ·exact (Uo b hb).2.1 q
  ·exact (Uo b hb).2.2.1 q
theorem KY (S:dw X F T fr sc)(I:aL X ah σ H s)
  (Uo:∀b∈fp,pB X ah H b) (hfo:∀b∈fp,b<s.heap.objs.size) (hn:h4.Ns s.heap.objs.size m) (k:∀b o,s.heap.get? b=some o->h4.get? b=some o):
  aL (qx X (F++T) sc s.heap.objs.size fp s H xe) [] (j6 fr T σ) H {s with heap:=h4,toks:=tk}:=by
 have cl:∀x c,(oE X.env sc.names []).lookup x=some c->X.env.cells.lookup x=some c:=λx c e=>(lQ e).resolve_left (by simp)
 refine⟨Y0 S I Uo hfo,rfl,I.g7,Un.gH k,⟨m,hn,λi x v h1 h2 h3=>?_⟩,λx c e=>?_,I.cA.fresh (zah _),λx c e=>I.jC x c (cl _ _ e),λp hp=>absurd (show p∈([]:List (Addr×Obj)) from hp) (by simp),I.cA.gH k,?_⟩
 ·have hi:i<fr.length:=by
   unfold j6 at h2;by_cases hi:i<fr.length
   ·exact hi
   ·rw[zat (by simpa using hi),zaq] at h2
    cases q:T[i - (fr.map λj=>(σ[j]?).join).length]? with
    |none=>rw[q] at h2;cases h2
    |some y=>rw[q] at h2;cases h2
  have hF:F[i]? = some x:=by
   have h1:(F++T)[i]? = some x:=h1
   rw[zaj (by rw[<-S.len];exact hi)] at h1
   exact h1
  obtain⟨j,hj,hx⟩:=S.qO i x hF;have hv:σ[j]? = some (some v):=by
   unfold j6 at h2;rw[zaj (by simpa using hi),zaq,hj] at h2
   have h2:some (σ[j]?).join=some (some v):=h2
   have h2:=zav h2;cases q:σ[j]? with
   |none=>rw[q] at h2;cases h2
   |some y=>rw[q] at h2;have h2:y=some v:=h2;rw[h2]
  have ak0:x∈F:=zaY hF
  have vX:=S.YZ x ak0;have Ak:X.env.kindOf x=some .cell:=S.KW _ (zaZ vX) rfl
  obtain⟨m0,_,hl⟩:=I.z9;obtain⟨u,ru,lk⟩:=hl j x v hx hv (.inr (.inl Ak))
  refine⟨u,ru,.inr ⟨jZ (env:=X.env) vX,?_⟩⟩
  rcases lk with⟨z,_⟩|⟨_,c,hc,hic⟩
  ·rw[Ak] at z;cases z
  ·obtain⟨c',Po⟩:=sD (env:=X.env) (x:=x) (l:=sc.names) (cs:=[]) (.inl ⟨zaZ vX,c,hc⟩)
   have e:c'=c:=by have:=cl _ _ Po;rw[hc] at this;exact (zav this).symm
   subst e;obtain⟨o,ho,hd⟩:=hic;exact⟨c',Po,o,k _ _ ho,hd⟩
 ·obtain⟨v,o,ho,hd⟩:=I.cell x c (cl _ _ e)
  exact⟨v,o,k _ _ ho,hd⟩
 ·show (j6 fr T σ).length=(F++T).length
  unfold j6;rw[zaf,zaf,zac,zac,S.len]
theorem AB (S:dw X F T fr sc)(hc:X.fQ=true)(hi:PI X target dW wi)
  (hg:∀C fp s H xe,PG (qx X (F++T) sc C fp s H xe) target g) (Qu:∀C fp s H xe,Dh (qx X (F++T) sc C fp s H xe) qQ ti) (he:∀C fp s H xe,PE (qx X (F++T) sc C fp s H xe) vJ te)
  (hs:∀x,foldedSetIterable dW X.env x=pure x) {ah:List (Addr×Obj)} {s:Shared} {σ:St} {H:Hp} {Q:VK} {use:Option (Value->Sem Unit)} {QQ:Value->Shared->Prop} (I:aL X ah σ H s) (h:E_ wi fr T g ti te σ H Q)
  (dN:∀(D C:Addr) (fp:List Addr) (s3 s7:Shared) (H3 H6:Hp) (xe:Value->Shared->Prop) (J7:St),aL X ah σ H3 s3->(∀b∈fp,pB X ah H3 b)->s3.heap.objs.size=C->aL (qx X (F++T) sc C fp s3 H3 xe) [] J7 H6 s7->Q (.ref D) H6->compPost (model X.prog X.w) X.A X.xe use QQ (.ref D) C (.ok .next) s7):
  wpAny (model X.prog X.w) X.A (comprehension (.ListComp vJ [⟨target,dW,qQ,0⟩] sc pos) sc X.env gU (newList []) false (eval dW X.env) use) QQ X.xe s:=by
 refine wpAny_comprehension_free rfl hs (Dg λp hp hf=>?_) S.kind S.locals ?_
 ·exact I.ok.has p.1 (.inl (S.KW p hp hf))
 refine cH (hi ah s σ H _ I h) λv s1 h1=>cH h1 λitv s2 h2=>?_
 obtain⟨it,fp,tn,J,H2,e,I2,T2,st2,f2,hD⟩:=h2;subst e;have hfo:∀b∈fp,b<s2.heap.objs.size:=λb hb=>by
  obtain⟨o,e,_⟩:=T2.lG _ _ st2 b hb;exact zam e
 -- CO new list
 refine zaW ?_
 have hDn:H2 s2.heap.objs.size=none:=I2.cA.fresh (zah _)
 obtain⟨W,⟨m0,w0⟩,J6⟩:=hD s2.heap.objs.size hDn
 have I3:aL X ah σ (bF H2 s2.heap.objs.size (.bM [])) { s2 with heap:=s2.heap.push { cls:=.type "list",dict:=none,data:=.seq ([]:List Value).toArray} }:=
  I2.jB (t':=s2.toks) (λb u e=>zad _ e) (zah _) ⟨zcF _,[],0,.nil,zap _ rfl⟩
 generalize hs3:({ s2 with heap:=s2.heap.push { cls:=.type "list",dict:=none,data:=.seq ([]:List Value).toArray} }:Shared)=s3 at I3
 have ak2:s3.heap.objs.size=s2.heap.objs.size+1:=by rw[<-hs3];exact zda _ _
 have neD:∀b∈fp,b≠s2.heap.objs.size:=λb hb=>zar (hfo b hb)
 have f3:∀b∈fp,pB X ah (bF H2 s2.heap.objs.size (.bM [])) b:=λb hb=>⟨by rw[au (neD b hb)];exact (f2 b hb).1,(f2 b hb).2⟩
 have ak3:∀b∈fp,b<s3.heap.objs.size:=λb hb=>by rw[ak2];exact Nat.lt_succ_of_lt (hfo b hb)
 have st3:tn 0 s3.heap:=T2.keep _ _ _ st2 λb hb o e=>by rw[<-hs3];exact zad _ e
 generalize hDD:s2.heap.objs.size=D at *
 -- CO frame
 refine wpAny_newFunctionEnv S.KU (by intro y hy;simp at hy) (λh4 hn4 ak4=>?_) S.kind
 have Qv:∀b o,s3.heap.get? b=some o->h4.get? b=some o:=λb o e=>ak4.extBut b o (zar (zam e)) (zad _ e)
 generalize Qw:s3.heap.objs.size=C at *
 let R:Result->Shared->Prop:=compPost (model X.prog X.w) X.A X.xe use QQ (.ref D) C
 let xe:Value->Shared->Prop:=notedBy (model X.prog X.w) X.A (compEnvC sc (oE X.env sc.names []) C X.env) λe s'=>R (.error e) s'
 have I4:aL (qx X (F++T) sc C fp s3 (bF H2 D (.bM [])) xe) [] (j6 fr T σ) (bF H2 D (.bM [])) {s3 with heap:=h4,toks:=s3.toks+([]:List (Str×Value)).length}:=by
  subst Qw;exact KY S I3 f3 ak3 hn4 Qv
 have st4:tn 0 h4:=T2.keep _ _ _ st3 λb hb o e=>Qv b o e
 have CW:∀{H':Hp},(∀b∈fp,H' b=none)->∀b∈fp,pB (qx X (F++T) sc C fp s3 (bF H2 D (.bM [])) xe) [] H' b:=λ{H'} hn b hb=>by
  refine⟨hn b hb,?_,?_,.inl hb,λx c e=>?_,λp hp=>absurd (show p∈([]:List (Addr×Obj)) from hp) (by simp)⟩
  ·exact (I4.ok.exf b hb).1
  ·exact I4.ok.CQ b hb
  ·exact (I4.ok.exf b hb).2 x c e
 have Pk:∀s5:Shared,s5 = {s3 with heap:=h4,toks:=s3.toks+([]:List (Str×Value)).length} ->
   codeAny (model X.prog X.w) X.A (.compLoop (.ListComp vJ [⟨target,dW,qQ,0⟩] sc pos) 0 (.ref it) (.ref D) (compEnvC sc (oE X.env sc.names []) C X.env)) R s5:=by
  rintro s5 rfl
  refine yP (λn s'=>∃i dS xs H',aL (qx X (F++T) sc C fp s3 (bF H2 D (.bM [])) xe) [] dS H' s'/\tn i s'.heap/\(∀b∈fp,H' b=none)/\W i n dS xs H') ?_ m0 ⟨0,_,[],_,I4,st4,λb hb=>(f3 b hb).1,w0⟩
  rintro n s6 ⟨i,J7,xs,H6,I6,st6,fr6,w6⟩
  obtain⟨hD6,tt⟩:=J6 i n J7 xs H6 w6;rcases tt with⟨stop,qn⟩|⟨go,NN,hNN,Ai⟩
  ·refine cH (T2.done (qx X (F++T) sc C fp s3 (bF H2 D (.bM [])) xe) rfl rfl rfl hc i [] s6 J7 H6 xe I6 (CW fr6) st6 stop) λr s7 bS=>?_
   obtain⟨hr,I7⟩:=bS;subst hr;exact dN D C fp s3 s7 _ H6 xe J7 I3 f3 Qw I7 qn
  ·refine cH (T2.item (qx X (F++T) sc C fp s3 (bF H2 D (.bM [])) xe) rfl rfl rfl hc i [] s6 J7 H6 xe I6 (CW fr6) st6 go) λr s7 dB=>?_
   obtain⟨u,hr,h7⟩:=dB;subst hr;refine cH h7 λ_ s8 eZ=>?_
   obtain⟨x,H8,I8,r8,y8,st8,fr8⟩:=eZ;have I8':=I8.J5 (CW fr8) (T2.lG _ _ st8)
   have afO:∀{s9:Shared} {Qx:St} {H9:Hp},aL (qx X (F++T) sc C fp s3 (bF H2 D (.bM [])) xe) ([]++r9 fp s8.heap) Qx H9 s9->aL (qx X (F++T) sc C fp s3 (bF H2 D (.bM [])) xe) [] Qx H9 s9/\tn (i+1) s9.heap/\∀b∈fp,H9 b=none:=λ{s9 Qx H9} I9=>by
    refine⟨I9.oq,T2.keep _ _ _ st8 λb hb o e=>(I9.Ah (b,o) (zaJ _ (zaJ _ (jU hb e)))).1,λb hb=>?_⟩
    obtain⟨o,e,d⟩:=T2.lG _ _ st8 b hb;exact (I9.Ah (b,o) (zaJ _ (zaJ _ (jU hb e)))).2.1
   refine cH (hg C fp s3 _ xe _ s8 J7 H8 x u _ I8' r8 (Ai x H8 y8)) λ_ s9 iP=>?_
   obtain⟨Qx,H9,I9,q9⟩:=iP;refine cH (Qu C fp s3 _ xe _ s9 Qx H9 _ I9 q9) λok s10 iQ=>?_
   obtain⟨H10,I10,q10⟩:=iQ;cases ok with
   |false =>
    rw[if_neg zak] at q10 ⊢
    obtain⟨m',hm,w'⟩:=hNN _ _ _ q10;obtain⟨b1,b2,b3⟩:=afO I10;exact⟨m',hm,i+1,Qx,xs,H10,b1,b2,b3,w'⟩
   |true =>
    rw[if_pos rfl] at q10 ⊢
    refine cH (he C fp s3 _ xe _ s10 Qx H10 _ I10 q10) λgJ s11 lT=>?_
    obtain⟨Uq,H11,I11,r11,ak7,hz,q11⟩:=lT;obtain⟨m',hm,w'⟩:=hNN _ _ _ q11;refine cH (wo _ s11 Qx H11 (.ref D) [Uq] (.ref D) [gJ] (λ_ H'=>H'=bF H11 D (.bM (xs++[Uq]))) I11 rfl (.cons r11 .nil) ⟨D,xs,Uq,rfl,rfl,ak7,hz,rfl⟩) λ_ s12 jH=>?_
    obtain⟨_,H12,I12,_,e12⟩:=jH;subst e12;obtain⟨b1,b2,b3⟩:=afO I12;exact⟨m',hm,i+1,Qx,_,_,b1,b2,b3,w'⟩
 have st5:codeAny (model X.prog X.w) X.A (.compStart (.ListComp vJ [⟨target,dW,qQ,0⟩] sc pos) 0 (.ref it) (.ref D) (compEnvC sc (oE X.env sc.names []) C X.env)) R {s3 with heap:=h4,toks:=s3.toks+([]:List (Str×Value)).length}:=
  codeAny_compStart_list (Pk _ rfl) (T2.self _ 0 _ _ _ st4 (Pk _ rfl))
 subst hs3;exact st5
theorem Qy (S:dw X F T fr sc)(hc:X.fQ=true)(hi:PI X target dW wi)
  (hg:∀C fp s H xe,PG (qx X (F++T) sc C fp s H xe) target g) (Qu:∀C fp s H xe,Dh (qx X (F++T) sc C fp s H xe) qQ ti) (he:∀C fp s H xe,PE (qx X (F++T) sc C fp s H xe) vJ te)
  (hs:autoParam (∀x,foldedSetIterable dW X.env x=pure x) zp_3):PE X (.ListComp vJ [⟨target,dW,qQ,0⟩] sc pos) (E_ wi fr T g ti te):=by
 intro ah s σ H Q I h;rw[eval_ListComp];refine AB S hc hi hg Qu he hs I h λD C fp s3 s7 H3 H6 xe J7 I3 f3 Qw I7 qn=>?_
 obtain⟨m7,hn7,_⟩:=I7.z9;refine⟨m7,hn7,λh8 Ur=>⟨.ref D,H6,?_,rfl,qn⟩⟩
 have hCn:H6 C=none:=I7.free
 have un8:Un (qZ X.c8) fp (H3) H6 s3.heap h8:=by
  have u7:Un (qZ X.c8) fp (H3) H6 s3.heap s7.heap:=I7.base
  have nC:∀b o,s3.heap.get? b=some o->b≠C:=λb o e=>by rw[<-Qw];exact zar (zam e)
  refine⟨λb o e n hb hx=>(Ur.2 b (nC b o e)).trans (u7.keep b o e n hb hx),λb o e n hb hx=>?_,u7.free,λb o e hx=>?_,u7.rP,u7.qM,u7.rQ⟩
  ·obtain⟨sl,q⟩:=u7.slot b o e n hb hx
   exact⟨sl,(Ur.2 b (nC b o e)).trans q⟩
  ·obtain⟨o',q⟩:=u7.there b o e hx
   exact⟨o',(Ur.2 b (nC b o e)).trans q⟩
 have ak9:mD X.prog X.w H6 h8:=λb ob e=>by
  refine (I7.cA b ob e).pA (λc w' hc q=>(Ur.2 c ?_).trans q) (λ_ q=>q) λ_ _ q=>q
  rintro rfl
  rcases hc with rfl|hc
  ·rw[hCn] at e;cases e
  ·rw[hCn] at hc;cases hc
 refine I3.ET (s':={s7 with heap:=h8}) (H':=H6) (ch:=fp) I7.os un8 ak9 I7.g7 λb hb=>?_
 obtain⟨_,q1,_,q2,q3,q4⟩:=f3 b hb;exact⟨q2,q1,q3,q4⟩
noncomputable def ala:V->Option Int->Option Int->Hp->VK->Prop:=λx lo hi H Q=>∃z,x = .str z/\z.length<=sizeLine/\Q (.str (Txt.slice z lo hi)) H
theorem Y3:SlR X ala:=by
 intro ah s σ H x v vl vu lo hi sl Q I rx hs pl pu h;obtain⟨z,rfl,hz,q⟩:=h;obtain⟨t,rfl⟩:=(show ∃t,v=Value.str z t from rx)
 refine⟨"str",_,F.slot_str_getitem.lookup,typeIs_str _ _ _,?_⟩
 have key:∀(l u:Option (Int×Tok)),s.heap.IsSlice sl l u none->l.map (·.1)=lo->u.map (·.1)=hi->wpAny (model X.prog X.w) X.A (getItem (.str z t) (.ref sl)) (EP X ah σ Q) X.xe s:=by
  intro l u hsl e1 e2;subst e1 e2;exact wpAny_getItem_str_slice (st:=none) hsl rfl (post_val_or_str ⟨zai (Txt.slice_le z _ _) hz,λt' k=>⟨.str (Txt.slice z (l.map (·.1)) (u.map (·.1))),H,I.nZ k,⟨t',rfl⟩,q⟩⟩)
 cases pl with
 |none=>cases pu with
  |none=>exact key none none hs rfl rfl
  |int j t'=>exact key none (some (j,t')) hs rfl rfl
 |int i ti=>cases pu with
  |none=>exact key (some (i,ti)) none hs rfl rfl
  |int j t'=>exact key (some (i,ti)) (some (j,t')) hs rfl rfl
noncomputable def sE (z:Str)(n:Nat):Str:=⟨(List.replicate n z.cps).foldl (·++·) #[]⟩
noncomputable def afP:R2:=λx y H Q=>∃z n,x = .str z/\y = .int n/\0<=n/\n<1000000/\z.length * n.toNat<=1000000/\Q (.str (sE z n.toNat)) H
theorem KZ (z:Str):sE z 1=z:=by
 obtain⟨c⟩:=z;simp[sE]
theorem vK (h:z.length=0)(n:Nat):sE z n=z:=by
 obtain⟨c⟩:=z;have e:c = #[]:=by simpa[Str.length] using h
 subst e;unfold sE;congr 1
 induction n with
 |zero=>rfl
 |succ n ih=>rw[zbr,zbp];simpa using ih
theorem Di:jV X (binaryOp .Mult) afP:=by
 intro ah s σ H x y v u Q I rx ry h;obtain⟨z,n,rfl,rfl,h0,h1,h2,q⟩:=h;obtain⟨t,rfl⟩:=(show ∃t,v=Value.str z t from rx)
 obtain⟨t',rfl⟩:=(show ∃t,u=Value.int n t from ry)
 have hz:z.length * n.toNat<=sizeLine:=zai h2 (by decide)
 refine P.mul_str (by
  have e1:¬ n < -(2 ^ 63:Int):=by omega
  have e2:¬ n ≥ 2 ^ 63:=by omega
  rw[decide_eq_false e1,decide_eq_false e2];rfl) (λhn _ hc=>?_) (λ_ _=>?_) ?_
 ·have alb:0<n:=by omega
  have e3:(z.length:Int) * n<=1000000:=by
   have:((z.length * n.toNat:Nat):Int)<=((1000000:Nat):Int):=Int.ofNat_le.mpr h2
   rw[Int.natCast_mul,Int.toNat_of_nonneg h0] at this;exact this
  have e4:(z.length:Int)<=(2 ^ 63 - 1) / n:=by
   rw[Int.le_ediv_iff_mul_le alb];omega
  omega
 ·unfold Builtin.Str.tooLong
  exact decide_eq_false (by omega)
 ·by_cases hn:n<1
  ·rw[if_pos hn]
   have e:n=0:=by omega
   subst e;exact⟨by decide,⟨.str _,H,I.nZ _,⟨_,rfl⟩,q⟩⟩
  ·rw[if_neg hn]
   by_cases hc:(n == 1 || z.length == 0)=true
   ·rw[if_pos hc]
    have e:sE z n.toNat=z:=by
     rcases zdL _ _ ▸ hc with e|e
     ·have e:n=1:=by simpa using e
      subst e;exact KZ z
     ·exact vK (by simpa using e) _
    rw[e] at q;exact⟨.str z,H,I,⟨t,rfl⟩,q⟩
   ·rw[if_neg hc]
    refine⟨?_,⟨.str _,H,I.nZ _,⟨_,rfl⟩,q⟩⟩
    have:∀(k:Nat) (a:Array Nat),((List.replicate k z.cps).foldl (·++·) a).size=a.size+k * z.cps.size:=by
     intro k;induction k with
     |zero=>intro a;simp
     |succ k ih=>intro a;rw[zbr,zbp,ih,Array.size_append,Nat.succ_mul];omega
    show ((List.replicate n.toNat z.cps).foldl (·++·) #[]).size<=sizeLine
    rw[this];have e5:z.cps.size=z.length:=rfl
    rw[e5];simp only[zan,zaG,zbT];rw[Nat.mul_comm];exact hz
noncomputable def q_:List Value:=[.type "ValueError",.type "Exception",.type "BaseException",.type "object"]
theorem Fb:q_.contains (.type "ValueError")=true:=by decide +kernel
noncomputable def j7 (C:Addr)(od:Option Addr)(t:Addr):Obj:={cls:=.ref C,dict:=od,data:=.fields #[.ref t,.none,.none,.none,.bool false,.none]}
noncomputable def EO (a C:Addr)(od:Option Addr):HO:=.ext λh=>∃t:Addr,h.get? a=some (j7 C od t)
noncomputable def ED (d:Addr)(fs:List (Str×V)):HO:=.ext λh=>∃mA,h.Ns1 d mA/\(∀f,iz (fs.lookup f) (mA f))/\PySem.Within mA (fs.map (·.1))
theorem K1 (e:h.get? a=some (j7 C od t)):cJ P w H h a (EO a C od):=
 ⟨⟨t,e⟩,⟨_,e⟩,λh1 h2 bS k=>by obtain⟨t,q⟩:=bS;exact⟨t,k _ q⟩⟩
theorem K2 (e:h.Ns1 d mA)(r:∀f,iz (fs.lookup f) (mA f))(wi:PySem.Within mA (fs.map (·.1))):cJ P w H h d (ED d fs):=
 ⟨⟨mA,e,r,wi⟩,(let ⟨o,_,_,e',_⟩:=e;⟨o,e'⟩),λh1 h2 dB k=>by obtain⟨mA,q,r,wi⟩:=dB;exact⟨mA,q.at λo z=>k o z,r,wi⟩⟩
section
variable {prog:Program}{w:World}{A:Around}{E:Value->Shared->Prop}{h:Heap}{g:Array GenState}{d:Drawn}{t:Nat}{os:OsState}{K:PySem.W.Frag}
variable {nm q:Str}{C N:Addr}{bs bm:List Value}{qR:Bool}{sn:List Str}{sub:List Value}{ab:Bool}{sF:Option Bool}{dd:Option Addr}{k0 k1 k2 k3 k5:Option Value}
theorem qS (X:K.In h)(T:OwnTail h q_ bm){cK:List Value} 
  (hC:h.get? C=some (excClassObj nm q C N bs bm qR sn sub ab sF dd k0 k1 k2 k3 k5 "ValueError.__new__"))
  (hi:PySem.W.findIn K (.ref C) "__init__"=some (some (.ref fI))) (hf:PySem.W.typeIn K (.ref fI)=some (.type "function"))
  (hq:wpAny (model prog w) A (call (.ref fI) (.ref (h.objs.size+1)::cK)) (λr s'=>r = .none/\Q (.done (.ret (.ref (h.objs.size+1)))) s') E
   ⟨(h.push { cls:=.type "tuple",data:=.seq cK.toArray}).push (j7 C none h.objs.size),g,d,t,os⟩) (hrest:cK.length<=sizeLine):
  wpAny (model prog w) A (Builtin.«type.__call__» ⟨.ref C::cK,[]⟩) Q E ⟨h,g,d,t,os⟩:=by
 have F:ExcBaseFacts "ValueError" "ValueError.__new__" "ValueError.__init__" q_:=F.excBase_ValueError
 repeat (first|with_reducible refine zbC hC ?_|with_reducible refine wpAny_madeBy_exc hC ?_|wp_step)
 refine codeAny_call_builtin_code (Code.quiet_builtin _ F.quiet) (wpAny_check_new_subU F Fb T hC ?_)
 refine codeAny_exc_new_subU F Fb F T hC ?_ hrest
 show wpAny _ _ _ _ _ _
 have up:∀b o,h.get? b=some o->((h.push { cls:=.type "tuple",data:=.seq cK.toArray}).push {cls:=.ref C,data:=.fields #[.ref h.objs.size,.none,.none,.none,.bool false,.none]}).get? b=some o:=
  λb o e=>zad _ (zad _ e)
 have afQ:=up _ _ hC;have afR:K.In _:=X.keeps up
 have alc:((h.push { cls:=.type "tuple",data:=.seq cK.toArray}).push
   {cls:=.ref C,data:=.fields #[.ref h.objs.size,.none,.none,.none,.bool false,.none]}).get? (h.objs.size+1)=some
   {cls:=.ref C,data:=.fields #[.ref h.objs.size,.none,.none,.none,.bool false,.none]}:=by heap_get
 have hcC:(Value.ref C::bm).contains (.ref C)=true:=by simp
 unfold isInstance;repeat (first|with_reducible refine zbC alc ?_ | (with_reducible refine zcp afQ ?_;rw[hcC])|wp_step)
 show wpAny _ _ (typeLookup (.ref C) _) _ _ _
 refine (zbQ afR hi).here ?_
 refine zbu (zaa ?_)
 unfold bindSpecial;refine zaa ((PySem.W.looks_typeIn afR hf).here ?_)
 rw[if_pos (by decide)]
 refine zag (zaa (zaI hq (λr s' hr=>?_) λ_ _ x=>x))
 obtain⟨rfl,hQ⟩:=hr;wp_walk
 exact hQ
theorem Dk (X:K.In h)(T:OwnTail h q_ bm){cK:List Value} 
  (hC:h.get? C=some (excClassObj nm q C N bs bm qR sn sub ab sF dd k0 k1 k2 k3 k5 "ValueError.__new__"))
  (hi:PySem.W.findIn K (.ref C) "__init__"=some (some (.ref fI))) (hf:PySem.W.typeIn K (.ref fI)=some (.type "function"))
  (hq:wpAny (model prog w) (A.under (.builtin "type.__call__" ⟨.ref C::cK,[]⟩)) (call (.ref fI) (.ref (h.objs.size+1)::cK)) (λr s'=>r = .none/\Q (.ref (h.objs.size+1)) s') E
   ⟨(h.push { cls:=.type "tuple",data:=.seq cK.toArray}).push (j7 C none h.objs.size),g,d,t,os⟩) (hrest:cK.length<=sizeLine):
  wpAny (model prog w) A (call (.ref C) cK) Q E ⟨h,g,d,t,os⟩:=by
 have f1:=tc_lookup;have f2:=tc_bind (.ref C)
 have hT:(⟨h,g,d,t,os⟩:Shared).TypeIs (.ref C) "type" := ⟨_,hC,rfl⟩
 refine zcC (codeAny_of_tree ?_)
 show wpAny _ _ (callAny (.ref C) _) _ _ _
 repeat (any_goals (first|assumption|with_reducible refine zbC hC ?_|wp_step))
 refine⟨rfl,?_⟩
 exact codeAny_call_builtin_at (Code.quiet_builtin _ (by decide +kernel)) entry_typeCall (wpAny_check_type_call_sub hC (qS (hrest:=hrest) X T hC hi hf hq))
end
structure oF (K:PySem.W.Frag) (C f:Addr) (bm:List Value):Prop where
 lG:∃nm q N bs sn sub ab sF dd k0 k1 k2 k3 k5,K.lookup C=some (excClassObj nm q C N bs bm true sn sub ab sF dd k0 k1 k2 k3 k5 "ValueError.__new__")
 tail:PySem.W.tailIn K q_ bm=true
 init:PySem.W.findIn K (.ref C) "__init__"=some (some (.ref f))
 fn:PySem.W.typeIn K (.ref f)=some (.type "function")
 kp:PySem.W.keepIn K (.ref C)=true
 sa:PySem.W.findIn K (.ref C) "__setattr__"=some (some (.builtin "object.__setattr__"))
 ga:PySem.W.findIn K (.ref C) "__getattribute__"=some (some (.builtin "BaseException.__getattribute__"))
 gg:PySem.W.findIn K (.ref C) "__getattr__"=some none
 kc:PySem.W.findIn K (.ref C) "__class__"=some (some (.builtin "object.__class__"))
 nb:∃B,bm = .ref B::q_
theorem AD (h:H a=some o):bF H a o=H:=by
 funext b
 unfold bF;split
 ·rename_i e;rw[e,h]
 ·rfl
section
variable {X:Cx}{CX:CA}{k:Nat}{f C:Addr}{bm:List Value}{fd:FuncData}{ps:List Str}{sp:Sp}{mG:List V}{ds:List Value}{E:XK}{x m:Str}{p pos fN:Pos}{e o:Expr}{es:List Expr}{ta:TE}{t:TA}
noncomputable def ald (C:Addr)(sp:Sp)(mG:List V)(E:XK)(t:TA):TE:=λσ H Q=>t σ H λvs H1=>vs.length<=1000/\∀x,H1 x=none ->
 sp (.ref x::(vs++mG)) (bF H1 x (EO x C none)) (λv H2=>v = .bu/\Q (.ref x) H2) E
theorem Qz (M:oF X.K C f bm)(F:aN X.prog X.w X.K X.mg X.base CX k f fd ps sp)(hr:gE (k+1) X.A)(hb:eB X.K fd ps ds)(hd:bN mG ds)
  (hx:gb CX X E) (I:aL X ah σ H s) (r:bN vs us) (hz:vs.length<=1000)
  (h:∀x,H x=none->sp (.ref x::(vs++mG)) (bF H x (EO x C none)) (λv H2=>v = .bu/\Q (.ref x) H2) E):
  wpAny (model X.prog X.w) X.A (call (.ref C) us) (EP X ah σ Q) X.xe s:=by
 obtain⟨nm,q,N,bs,sn,sub,ab,sF,dd,k0,k1,k2,k3,k5,lk⟩:=M.lG;have KX:=I.nY;have hq:=h (s.heap.objs.size+1) (I.cA.fresh (zbc _))
 have hsz:us.length<=sizeLine:=by
  rw[<-r.length];exact zai hz (by decide)
 have e2:((s.heap.push { cls:=.type "tuple",data:=.seq us.toArray}).push (j7 C none s.heap.objs.size)).get? (s.heap.objs.size+1)=some (j7 C none s.heap.objs.size):=by
  have:=zap (s.heap.push { cls:=.type "tuple",data:=.seq us.toArray}) (o:=j7 C none s.heap.objs.size) rfl
  rwa[zda] at this
 have up:∀b o,s.heap.get? b=some o->((s.heap.push { cls:=.type "tuple",data:=.seq us.toArray}).push (j7 C none s.heap.objs.size)).get? b=some o:=λb o e=>zad _ (zad _ e)
 have I2:aL X ah σ (bF H (s.heap.objs.size+1) (EO (s.heap.objs.size+1) C none)) { s with heap:=(s.heap.push { cls:=.type "tuple",data:=.seq us.toArray}).push (j7 C none s.heap.objs.size)}:=
  I.jB (t':=s.toks) up (zbc _) (K1 e2)
 have r2:bN (V.ref (s.heap.objs.size+1)::(vs++mG)) (Value.ref (s.heap.objs.size+1)::(us++ds)):=.cons rfl (r.lJ hd)
 have hl:(Value.ref (s.heap.objs.size+1)::us++ds).length=ps.length:=by
  have e:=r2.length;rw[F.len _ _ _ _ hq] at e;exact e.symm
 have dN:wpAny (model X.prog X.w) (X.A.under (.builtin "type.__call__" ⟨.ref C::us,[]⟩)) (call (.ref f) (.ref (s.heap.objs.size+1)::us)) (λr s'=>r = .none/\EP X ah σ Q (.ref (s.heap.objs.size+1)) s') X.xe
   { s with heap:=(s.heap.push { cls:=.type "tuple",data:=.seq us.toArray}).push (j7 C none s.heap.objs.size)}:=by
  refine zcC (zcv (F.jW _ X.c8 _ _ ⟨Value.ref (s.heap.objs.size+1)::us,[]⟩ (Value.ref (s.heap.objs.size+1)::(us++ds)) _ _ E (hr.Kg C us [])
   (I2.An.Kg C us []) (hb _ (Value.ref (s.heap.objs.size+1)::us) I2.nY hl) r2 hq) λr s' Ko=>?_)
  cases r with
  |error e=>exact hx ah σ _ _ e s' I2 Ko
  |ok fl =>
   cases fl with
   |ret u =>
    obtain⟨v,H',I3,rv,ev,q3⟩:=I2.after Ko;subst ev;exact⟨rv,⟨V.ref (s.heap.objs.size+1),H',I3,rfl,q3⟩⟩
   |next=>exact False.elim Ko
   |brk=>exact False.elim Ko
   |cont=>exact False.elim Ko
 exact Dk (g:=s.gens) (d:=s.drawn) (t:=s.toks) (os:=s.os) KX (zey KX M.tail) (KX _ _ lk) M.init M.fn dN hsz
theorem Y4 (M:oF X.K C f bm)(F:aN X.prog X.w X.K X.mg X.base CX k f fd ps sp)(hr:gE (k+1) X.A)(hg:Gl X x)(hm:X.mg x=some (.ref C))(hb:eB X.K fd ps ds)(hd:bN mG ds)(hx:gb CX X E)
  (ha:PA X (e::es) t) (sf:autoParam ((x == ("__debug__" : Str))=false) zp_1) (he:autoParam (starEach (e::es) X.env=(false,eval e X.env)::starEach es X.env) zp_0) (iA:autoParam ((backTo pos (starEach es X.env)).any (·.1)=false) zp_0):
  PE X (.Call (.Name x p) (e::es) [] pos) (ald C sp mG E t):=by
 intro ah s σ H Q I h;refine zca (mE I hg hm ?_ sf)
 refine zcw (h₀:= X.base) I.ok.rS.XZ M.kp (cH (ha pos ah s σ H _ I h) λus s1 ⟨vs,H1,I1,r,hz,q⟩=>⟨I1.nY,?_⟩) he iA
 exact Qz M F hr hb hd hx I1 r hz q
structure Us (K:PySem.W.Frag) (B:Addr):Prop where
 sp:PySem.W.specialIn K (.ref B) "__getattribute__"=some (some (.builtin "type.__getattribute__"))
 rd:PySem.W.readsIn K B (.type "type")=true
 fc:PySem.W.findCls K (.ref B) (.type "type") "__init__"=some (.val (.builtin "ValueError.__init__"))
noncomputable def Y5 (K:PySem.W.Frag)(t:TA):TE:=λσ H Q=>t σ H λvs H1=>∃a C f bm od y,vs=[.ref a,y]/\H1 a=some (EO a C od)/\oF K C f bm/\Q .bu H1
theorem K3 (M:oF X.K C f bm)(I:aL X ah σ H s)(hH:H a=some (EO a C od))(q:Q .bu H):
  wpAny (model X.prog X.w) X.A (call (.builtin "ValueError.__init__") [.ref a,u]) (EP X ah σ Q) X.xe s:=by
 obtain⟨nm,q',N,bs,sn,sub,ab,sF,dd,k0,k1,k2,k3,k5,lk⟩:=M.lG;have KX:=I.nY;have F:ExcBaseFacts "ValueError" "ValueError.__new__" "ValueError.__init__" q_:=F.excBase_ValueError
 obtain⟨⟨t0,ha⟩,_,_⟩:=(show cJ X.prog X.w H s.heap a (EO a C od) from I.cA a _ hH)
 have hC:=KX _ _ lk;have T:=zey KX M.tail;obtain⟨h,g,d,tk,os⟩:=s;refine zcC (zcP F.init.plain F.initEntry (wpAny_check_init_subU F T hC ha rfl ?_))
 have QA:h.get? a=some {cls:=.ref C,dict:=od,data:=.fields #[.ref t0,.none,.none,.none,.bool false,.none]}:=ha
 wp_walk
 have up:∀b o,h.get? b=some o->(h.push { cls:=.type "tuple",data:=.seq #[u]}).get? b=some o:=λb o e=>zad _ e
 have I1:aL X ah σ H ⟨h.push { cls:=.type "tuple",data:=.seq #[u]},g,d,tk,os⟩:=I.gH (t':=tk) up
 have e1:((h.push { cls:=.type "tuple",data:=.seq #[u]}).update a (Obj.mapFields λx=>x.setIfInBounds 0 (Value.ref h.objs.size))).get? a=some (j7 C od h.objs.size):=by
  rw[zaV _ (up _ _ QA) rfl];rfl
 have I2:=I1.jf (x:=a) (e:=a) (o:=EO a C od) (t':=tk) (h':=(h.push { cls:=.type "tuple",data:=.seq #[u]}).update a (Obj.mapFields λx=>x.setIfInBounds 0 (Value.ref h.objs.size)))
  (by rw[hH];exact True.intro) (.inl rfl) (λb z hb e=>(zaC _ _ (zbd hb)).trans e) ⟨_,e1⟩ (K1 e1)
 rw[AD hH] at I2;exact⟨.bu,H,I2,rfl,q⟩
theorem K4 (EB:Us X.K B)(hg:Gl X x)(hm:X.mg x=some (.ref B))(ha:PA X [e,e2] t)(sf:autoParam ((x == ("__debug__" : Str))=false) zp_1)
  (qm:autoParam (starEach [e,e2] X.env=(false,eval e X.env)::starEach [e2] X.env) zp_0) (iA:autoParam ((backTo pos (starEach [e2] X.env)).any (·.1)=false) zp_0)
  (ht:autoParam (eval (.Call (.Attribute (.Name x p) "__init__" fN) [e,e2] [] pos) X.env=(do
   let ov <-eval (.Name x p) X.env
   standAt fN.atName
   let (f,first) <-holding [ov] (getMethod ov "__init__" pl)
   callWith pos f first (backTo pos (starEach [e,e2] X.env)) (backToKw pos (keywordEach [] X.env)))) zp_0):
  PE X (.Call (.Attribute (.Name x p) "__init__" fN) [e,e2] [] pos) (Y5 X.K t):=by
 intro ah s σ H Q I h;refine zcL (pl:=pl) (mE I hg hm ?_ sf) ht
 refine PySem.W.method_cls I.nY EB.sp (PySem.W.cls_value I.nY EB.rd EB.fc rfl ?_)
 have I1:=I.nZ (s.toks+1)
 have hA:=ha pos ah {s with toks:=s.toks+1} σ H _ I1 h
 rw[qm] at hA ⊢
 refine zcG (by show (false || (backTo pos (starEach [e2] X.env)).any (·.1))=false;rw[iA]<;>rfl) (zcN ?_)
 refine cH hA λus s2 dB=>?_
 obtain⟨vs,H2,I2,r2,a,C',f',JL,od,y,ev,hH,M,q⟩:=dB;subst ev;obtain⟨u1,u2,rfl,ru1,_⟩:=r2.two;cases (show u1=Value.ref a from ru1)
 exact K3 M I2 hH q
end
theorem Y6 (e:h.get? a=some (j7 C none t)):PySem.W.InstAt h a (j7 C none t) C none:=⟨e,rfl,rfl,True.intro⟩
theorem Y7 (e:h.get? a=some (j7 C (some d) t))(hd:h.get? d=some o):PySem.W.InstAt h a (j7 C (some d) t) C (some o):=⟨e,rfl,rfl,hd⟩
theorem Dl (self:Value):refuseLoop self "__setattr__" q_=pure ():=by
 with_unfolding_all rfl
theorem oF.cls {K:PySem.W.Frag}(M:oF K C f bm):∃cd,PySem.W.clsIn K C=some cd/\cd.mro = .ref C::bm/\cd.hasDict=true:=by
 obtain⟨nm,q',N,bs,sn,sub,ab,sF,dd,k0,k1,k2,k3,k5,lk⟩:=M.lG;refine⟨{name:=nm,bases:=bs,mro:=.ref C::bm,ns:=N,qualname:=q',hasDict:=true,slotNames:=sn,subclasses:=sub,abstract:=ab,collection:=sF,hasDel:=false},?_,rfl,rfl⟩
 unfold PySem.W.clsIn;rw[lk]
section
variable {prog:Program}{w:World}{A:Around}{E:Value->Shared->Prop}{s:Shared}{K:PySem.W.Frag}{x C f:Addr}{bm:List Value}{ox:Obj}{od:Option Obj}{name:Str}
theorem oF.has {T:String}(M:oF K C f bm)(hT:q_.contains (.type T)=true):PySem.W.mroIn K C (.type T)=some true:=by
 obtain⟨cd,hc,hm,_⟩:=M.cls;obtain⟨B,rfl⟩:=M.nb;unfold PySem.W.mroIn;rw[hc,zbw,hm,if_neg (by simp)]
 rw[zby,zby,hT,zcx,zcx]
theorem QB {ale Kd:Bool}{tk:Tok}{Q:Value->Shared->Prop}(X:K.In s.heap)(I:PySem.W.InstAt s.heap x ox C od)(M:oF K C f bm)
  (h:wpAny (model prog w) A.in1 (Builtin.«object.__getattribute__» ⟨[.ref x,.str name tk],[]⟩)
   (λdN s'=>match dN with|.done (.ret v)=>wpAny (model prog w) A (handedOut v) Q E s' | _=>False) (λ_ _=>False) s):
  wpAny (model prog w) A (getAttrBy (.ref x) (.str name tk) ale Kd) Q E s:=by
 have L0:=I.type (M:=model prog w)
 unfold getAttrBy;refine zbu (zaa (L0.here (zaa ((zbQ X M.ga).here ?_))))
 dsimp only;rw[show (onTheHeap (Value.ref C) && Value.builtin "BaseException.__getattribute__" == Value.builtin "object.__getattribute__")=false from by rw[show (Value.builtin "BaseException.__getattribute__" == Value.builtin "object.__getattribute__")=false from by decide +kernel,zdX],if_neg (by decide)]
 unfold getAttrByItsOwn;refine zaa ?_
 unfold hookBefore;rw[if_pos (show onTheHeap (Value.ref C)=true from rfl)];refine (zbQ X M.gg).here (zaa (wpAny_attempt (zbu ?_)))
 unfold callGetattribute;rw[show (Kd && onTheHeap (Value.builtin "BaseException.__getattribute__"))=false from zdX _,if_neg (by decide)]
 unfold boundAndCalled;rw[zdg.ga.bind];refine zaa (zag ?_)
 show wpAny _ _ (call (.builtin "BaseException.__getattribute__") [.ref x,.str name tk]) _ _ _
 refine zcC (zcP zdg.ga.plain PySem.F.entry_bexc_ga ?_)
 refine @zez (model prog w) _ _ s "BaseException.__getattribute__" "BaseException" "__getattribute__" (.ref x) [.str name tk] [] _ (by decide +kernel) (by decide +kernel)
  (L0.andThen (zen X (M.has (by decide +kernel)))) (PySem.F.args_bexc_ga _ _) ?_
 refine zaI h (λdN s' z=>?_) λ_ _ z=>z.elim
 rcases dN with (_|_|_|_)|_<;>first|exact z|exact z.elim
theorem Dm {Kd:Bool}{v:Value}{Q:Value->Shared->Prop}(X:K.In s.heap)(I:PySem.W.InstAt s.heap x ox C od)(M:oF K C f bm)(hf:PySem.W.findObj K C od name=some (.value v))(hh:PySem.W.handedIn v=true)
  (h:Q v {s with toks:=s.toks+1}):wpAny (model prog w) A (getAttr (.ref x) name Kd) Q E s:=by
 unfold getAttr;refine zaa (wpAny_mkText ?_)
 refine QB (s:={s with toks:=s.toks+1}) X I M ?_
 have L0:=I.type (M:=model prog w)
 have L1:=PySem.W.looks_find (M:=model prog w) X I hf
 obtain⟨hh',g,d,t,os⟩:=s;refine zaa (zag (zaa (zag (zaa (L0.at (zaa (L1.at ?_)))))))
 refine zag ?_
 show wpAny _ _ (handedOut v) _ _ _
 rw[PySem.W.handedOut_of hh];exact zag h
theorem wA {v:Value}{b:Bool->Prop}{Q:Unit->Shared->Prop}(X:K.In s.heap)(I:PySem.W.InstAt s.heap x ox C od)(M:oF K C f bm)(hn:PySem.W.findIn K (.ref C) name=some none)
  (h:∀on tk,wpAny (model prog w) A.in1 (Builtin.ObjectAttr.storeInOwnDict (.ref x) (.ref C) (.str name tk) name v on) (λdN s'=>match dN with|.done (.ret _)=>Q () s' | _=>False) E {s with toks:=s.toks+1}):
  wpAny (model prog w) A (setAttr (.ref x) name v) Q E s:=by
 refine zeF X I M.sa ?_
 have SF:=PySem.F.store_object;obtain⟨cd,hc,hm,_⟩:=M.cls;obtain⟨B,hB⟩:=M.nb;have L0:=I.type (M:=model prog w)
 refine zcP SF.slot.plain SF.entry (@zez (model prog w) _ _ {s with toks:=s.toks+1} "object.__setattr__" "object" "__setattr__" (.ref x) [.str name s.toks,v] [] _ SF.kind SF.split
  (L0.andThen (zen X (M.has (by decide +kernel)))) (SF.args (.ref x) (.str name s.toks) v) ?_)
 have Lm:PySem.W.Looks (model prog w) s.heap (mroOf (.ref C)) cd.mro:=(zco X hc).andThen .now
 rw[PySem.W.osa_eq,refuse_eq];refine zaa (zaa (zbx (s:={s with toks:=s.toks+1}) L0 (zaa (zbx (s:={s with toks:=s.toks+1}) Lm ?_))))
 rw[hm,hB,refuseLoop_ref,refuseLoop_ref,Dl];refine zag (zaa (zbx (s:={s with toks:=s.toks+1}) L0 (zaa (zbx (s:={s with toks:=s.toks+1}) (zbQ X hn) ?_))))
 refine zaa (zag ?_)
 refine zaI (h _ _) (λdN s' z=>?_) λ_ _ z=>z
 rcases dN with (_|_|_|_)|_<;>first|exact z|exact z.elim
end
section
variable {X:Cx}{ah:List (Addr×Obj)}{σ:St}{H:Hp}{s:Shared}{A:Around}{E:Value->Shared->Prop}{a C f d:Addr}{bm:List Value}{g:Str}{v y:V}{u:Value}{fs:List (Str×V)}
theorem K5 {od:Option Addr}(I:aL X ah σ H s)(h:H a=some (EO a C od)):∃t,s.heap.get? a=some (j7 C od t):=by
 obtain⟨⟨t,e⟩,_,_⟩:=(show cJ X.prog X.w H s.heap a (EO a C od) from I.cA a _ h)
 exact⟨t,e⟩
theorem Ut (I:aL X ah σ H s)(h:H d=some (ED d fs)):∃mA,s.heap.Ns1 d mA/\(∀f,iz (fs.lookup f) (mA f))/\PySem.Within mA (fs.map (·.1)):=by
 obtain⟨q,_,_⟩:=(show cJ X.prog X.w H s.heap d (ED d fs) from I.cA d _ h)
 exact q
end
theorem K7 (h:a≠b):bF (bF (bF H a o) b u) a w=bF (bF (bF H a o) a w) b u:=by
 funext c
 unfold bF;by_cases h1:c=a
 ·subst h1;rw[if_pos rfl,if_neg h,if_pos rfl]
 ·rw[if_neg h1,if_neg h1,if_neg h1]
theorem K8 (I:aL X ah σ H s)(M:oF X.K C f bm)(ha:H a=some (EO a C none))(hn:PySem.W.findIn X.K (.ref C) g=some none)(ry:bI y u)
  (h:∀d s',H d=none->aL X ah σ (bF (bF H d (ED d [(g,y)])) a (EO a C (some d))) s'->Q () s'):wpAny (model X.prog X.w) A (setAttr (.ref a) g u) Q E s:=by
 obtain⟨t,e⟩:=K5 I ha;obtain⟨cd,hc,_,qR⟩:=M.cls;refine wA (b:=λ_=>True) I.nY (Y6 e) M hn λon tk=>?_
 have Y8:H s.heap.objs.size=none:=I.cA.fresh (zah _)
 have e':s.heap.get? a=some ⟨.ref C,none,.fields #[.ref t,.none,.none,.none,.bool false,.none],#[]⟩:=e
 refine zaa (zag (zaa (zaa (zdW e' (zaa (zbx (s:={s with toks:=s.toks+1}) (zco I.nY hc) ?_))))))
 rw[qR];refine zaa (wpAny_alloc ?_)
 have hal:a<s.heap.objs.size:=zam e
 have nad:a≠s.heap.objs.size:=zar hal
 have g1:(s.heap.push ({ cls:=.type "dict",data:=.dict #[]}:Obj)).get? s.heap.objs.size=some { cls:=.type "dict",data:=.dict #[]}:=zap _ rfl
 have n1:(s.heap.push ({ cls:=.type "dict",data:=.dict #[]}:Obj)).Ns s.heap.objs.size (λ_=>none):=⟨_,#[],_,g1,rfl,(λe he=>absurd he (by simp)),λ_=>rfl⟩
 have n1':=Heap.Ns1.of_empty n1;have I1:aL X ah σ (bF H s.heap.objs.size (ED s.heap.objs.size [])) { s with heap:=s.heap.push ({ cls:=.type "dict",data:=.dict #[]}:Obj),toks:=s.toks+1}:=
  I.jB (λb u e=>zad _ e) (zah _) (K2 n1' (λ_=>True.intro) (λy hy=>absurd rfl hy))
 have e1:(s.heap.push ({ cls:=.type "dict",data:=.dict #[]}:Obj)).get? a=some ⟨.ref C,none,.fields #[.ref t,.none,.none,.none,.bool false,.none],#[]⟩:=zad _ e'
 refine zaa (wpAny_update e1 ?_)
 have e2:((s.heap.push ({ cls:=.type "dict",data:=.dict #[]}:Obj)).update a (λo=>{cls:=o.cls,dict:=some s.heap.objs.size,data:=o.data,slots:=o.slots})).get? a=some (j7 C (some s.heap.objs.size) t):=by
  rw[zaV _ e1 rfl];rfl
 have hH1:(bF H s.heap.objs.size (ED s.heap.objs.size [])) a=some (EO a C none):=by rw[au nad];exact ha
 have I2:=I1.jf (x:=a) (e:=a) (o:=EO a C (some s.heap.objs.size)) (t':=s.toks+1) (h':=(s.heap.push ({ cls:=.type "dict",data:=.dict #[]}:Obj)).update a (λo=>{cls:=o.cls,dict:=some s.heap.objs.size,data:=o.data,slots:=o.slots}))
  (by rw[hH1];exact True.intro) (.inl rfl) (λb z hb q=>(zaC _ _ (zbd hb)).trans q) ⟨_,e2⟩ (K1 e2)
 have n2:((s.heap.push ({ cls:=.type "dict",data:=.dict #[]}:Obj)).update a (λo=>{cls:=o.cls,dict:=some s.heap.objs.size,data:=o.data,slots:=o.slots})).Ns1 s.heap.objs.size (λ_=>none):=
  n1'.at λo z=>(zaC _ _ nad).trans z
 refine zag ?_
 refine zaa (zag (zaa ?_))
 refine wpAny_nsSet1 n2 λh' JG hs2=>?_
 obtain⟨oD,esD,epD,Ug,hdD,hcD⟩:=JG.count (PySem.Within.cons g u (ns:=[]) (λy hy=>absurd rfl hy))
 refine zaa (zdz Ug (by rw[hdD];exact zdA (zai hcD (show 1<=sizeLine+1 by decide))) ?_)
 refine zag (h s.heap.objs.size _ Y8 ?_)
 have hHd:(bF (bF H s.heap.objs.size (ED s.heap.objs.size [])) a (EO a C (some s.heap.objs.size))) s.heap.objs.size=some (ED s.heap.objs.size []):=by rw[au (zbd nad),az]
 have I3:=I2.jf (x:=s.heap.objs.size) (e:=s.heap.objs.size) (o:=ED s.heap.objs.size [(g,y)]) (t':=s.toks+1+1) (h':=h')
  (by rw[hHd];exact True.intro) (.inl rfl) (λb z hb q=>(hs2.2 b hb).trans q) ⟨_,Ug⟩ (K2 JG (λf=>?_) (λf hf=>?_))
 ·rw[K7 (zbd nad),EN] at I3
  exact I3
 ·show iz (List.lookup f [(g,y)]) (if f=g then some u else none)
  rw[zaR];by_cases q:f=g
  ·rw[if_pos q,show (f == g)=true from by simpa using q]
   exact ry
  ·rw[if_neg q,show (f == g)=false from by simpa using q]
   exact True.intro
 ·have hf:(if f=g then some u else none)≠none:=hf
  by_cases q:f=g
  ·rw[q];simp
  ·rw[if_neg q] at hf;exact absurd rfl hf
theorem K9 (I:aL X ah σ H s)(M:oF X.K C f bm)(ha:H a=some (EO a C (some d)))(hd:H d=some (ED d fs))(hl:fs.length<1000)(hn:PySem.W.findIn X.K (.ref C) g=some none)(ry:bI y u)
  (h:∀s',aL X ah σ (bF H d (ED d (gn g y fs))) s'->Q () s'):wpAny (model X.prog X.w) A (setAttr (.ref a) g u) Q E s:=by
 obtain⟨t,e⟩:=K5 I ha;obtain⟨mA,ns,r,wi⟩:=Ut I hd;obtain⟨oD,Ug,_⟩:=pD ns;obtain⟨cd,hc,_,qR⟩:=M.cls;refine wA (b:=λ_=>True) I.nY (Y7 e Ug) M hn λon tk=>?_
 have e':s.heap.get? a=some ⟨.ref C,some d,.fields #[.ref t,.none,.none,.none,.bool false,.none],#[]⟩:=e
 refine zaa (zag (zaa (zaa (zdW e' (zaa (zbx (s:={s with toks:=s.toks+1}) (zco I.nY hc) ?_))))))
 rw[qR];refine zag (a:=some d) (zaa (zag (zaa ?_)))
 refine wpAny_nsSet1 (s:={s with toks:=s.toks+1}) ns λh' JG hs2=>?_
 obtain⟨oD',esD,epD,afS,hdD,hcD⟩:=JG.count (PySem.Within.cons g u wi)
 have anY:(1000:Nat)<=sizeLine:=by decide
 have hz:(fs.map (·.1)).length<1000:=by rw[zac];exact hl
 refine zaa (zdz afS (by rw[hdD];exact zdA (zai hcD (by rw[zaD];omega))) ?_)
 refine zag (h _ ?_)
 refine I.jf (x:=d) (e:=d) (o:=ED d (gn g y fs)) (by rw[hd];exact True.intro) (.inl rfl) (λb z hb q=>(hs2.2 b hb).trans q) ⟨_,afS⟩ (K2 JG (λf=>?_) (λf hf=>?_))
 ·show iz ((gn g y fs).lookup f) (if f=g then some u else mA f)
  rw[lN];by_cases q:f=g
  ·rw[if_pos q,if_pos q];exact ry
  ·rw[if_neg q,if_neg q];exact r f
 ·by_cases q:f=g
  ·rw[q];exact (jE g y fs).1
  ·refine (jE g y fs).2 f (wi f λz=>hf ?_)
   show (if f=g then some u else mA f)=none
   rw[if_neg q];exact z
noncomputable def afT (K:PySem.W.Frag)(ta tv:TE)(g:Str):TS:=λD σ H=>tv σ H λy H1=>ta σ H1 λx H2=>∃a C f bm,x = .ref a/\H2 a=some (EO a C none)/\oF K C f bm/\PySem.W.findIn K (.ref C) g=some none /\
 ∀d,H2 d=none->D.nx σ (bF (bF H2 d (ED d [(g,y)])) a (EO a C (some d)))
noncomputable def afU (K:PySem.W.Frag)(ta tv:TE)(g:Str):TS:=λD σ H=>tv σ H λy H1=>ta σ H1 λx H2=>∃a C f bm d fs,x = .ref a/\H2 a=some (EO a C (some d))/\H2 d=some (ED d fs)/\fs.length<1000/\oF K C f bm/\PySem.W.findIn K (.ref C) g=some none /\
 D.nx σ (bF H2 d (ED d (gn g y fs)))
theorem QC (ha:PE X o ta)(hv:PE X value tv)(hs:autoParam (swapsWith value (some (.Attribute o g jD)) pos.line X.env=pure false) zp_0):PS X (.Assign [.Attribute o g jD] value pos) (afT X.K ta tv g):=by
 intro ah s σ H D I h;refine zbX (cH (hv ah s σ H _ I h) λu s1 ⟨y,H1,I1,ry,q⟩=>cH (ha ah s1 σ H1 _ I1 q) λov s2 eZ=>?_) hs
 obtain⟨x,H2,I2,rx,a,C,f,bm,ex,ea,M,n,q2⟩:=eZ;subst ex;obtain rfl:ov=Value.ref a:=rx
 exact K8 I2 M ea n ry λd s3 hd I3=>⟨σ,_,I3,q2 d hd⟩
theorem QD (ha:PE X o ta)(hv:PE X value tv)(hs:autoParam (swapsWith value (some (.Attribute o g jD)) pos.line X.env=pure false) zp_0):PS X (.Assign [.Attribute o g jD] value pos) (afU X.K ta tv g):=by
 intro ah s σ H D I h;refine zbX (cH (hv ah s σ H _ I h) λu s1 ⟨y,H1,I1,ry,q⟩=>cH (ha ah s1 σ H1 _ I1 q) λov s2 iQ=>?_) hs
 obtain⟨x,H2,I2,rx,a,C,f,bm,d,fs,ex,ea,ed,hl,M,n,q2⟩:=iQ;subst ex;obtain rfl:ov=Value.ref a:=rx
 exact K9 I2 M ea ed hl n ry λs3 I3=>⟨σ,_,I3,q2⟩
section
variable {K:PySem.W.Frag}{C f B:Addr}
end
theorem aL.Fc {fp:List Addr}(I:aL X ah σ H s)(k:∀b o,b∉fp->s.heap.get? b=some o->h'.get? b=some o)
  (hf:∀b∈fp,pB X ah H b):aL X ah σ H {s with heap:=h',toks:=t' }:=by
 refine I.Ai (g':=s.gens) (d':=s.drawn) (ch:=fp) (λb hb=>?_) (λb o _ _ hc e _=>k b o hc e) (λb o _ _ hc e _=>⟨o.slots,k b o hc e⟩) (λ_ _ _ _ n=>n)
  (λb o hc e=>⟨o,k b o hc e⟩) (λ_ _ e=>e) (λ_ _ _ e=>e) (λb ps e=>⟨#[],by rw[e];simp⟩) (λm hm=>?_) (λb u e=>?_) I.g7
 ·obtain⟨f0,f1,f2,f3,f4,f5⟩:=hf b hb
  exact⟨f3,f1,f4,f5⟩
 ·obtain⟨o,es,ep,ho,r⟩:=hm
  exact⟨o,es,ep,k _ o (λz=>(hf _ z).2.1 rfl) ho,r⟩
 ·refine (I.cA b u e).pA (λc v hc q=>k c v (λz=>?_) q) (λ_ q=>q) λ_ _ q=>q
  have f0:=(hf c z).1
  rcases hc with z' | z'
  ·rw[z',e] at f0;cases f0
  ·rw[z'] at f0;cases f0
noncomputable def SqK (K:PySem.W.Frag)(κ:Bool)(H:Hp)(a:Addr)(xs:List V):Prop:=match κ with|true=>nA K H a xs|false=>iO K H a xs
noncomputable def nh (κ:Bool)(h:Heap)(it a:Addr)(i:Nat):Prop:=match κ with|true=>h.IsTupleIter it a i|false=>h.IsListIter it a i
noncomputable def sG (κ:Bool)(h:Heap)(a:Addr)(bg:Array Value):Prop:=match κ with|true=>h.IsTuple a bg|false=>h.IsList a bg
theorem nh.lG (st:nh κ h it a i):∃o,h.get? it=some o/\∀v,o.data ≠ .cell v:=by
 cases κ with
 |true=>obtain⟨o,e,c,d⟩:=st;exact⟨o,e,λv z=>by rw[d] at z;cases z⟩
 |false=>obtain⟨o,e,c,d⟩:=st;exact⟨o,e,λv z=>by rw[d] at z;cases z⟩
theorem nh.qO (st:nh κ h it a i)(k:∀o,h.get? it=some o->h'.get? it=some o):nh κ h' it a i:=by
 cases κ with
 |true=>obtain⟨o,e,r⟩:=st;exact⟨o,k o e,r⟩
 |false=>obtain⟨o,e,r⟩:=st;exact⟨o,k o e,r⟩
theorem sG.qO (st:sG κ h a bg)(k:∀o,h.get? a=some o->h'.get? a=some o):sG κ h' a bg:=by
 cases κ with
 |true=>obtain⟨o,e,r⟩:=st;exact⟨o,k o e,r⟩
 |false=>obtain⟨o,e,r⟩:=st;exact⟨o,k o e,r⟩
theorem nh.ne (st:nh κ h it a i)(so:sG κ h a bg):a≠it:=by
 intro z;subst z;cases κ with
 |true =>
  obtain⟨o,e,c,d⟩:=st;obtain⟨o',e',c',_⟩:=so;rw[e] at e';cases e'
  rw[c] at c';exact absurd c' (by decide)
 |false =>
  obtain⟨o,e,c,d⟩:=st;obtain⟨o',e',c',_⟩:=so;rw[e] at e';cases e'
  rw[c] at c';exact absurd c' (by decide)
theorem Dn (hj:s.heap.IsTupleIter j tp n)(hp:s.heap.IsTuple tp vs)(hv:vs[n]? = some v)
  (k:∀h',h'.IsTupleIter j tp (n+1)->Heap.SameBut j s.heap h'->Q v {s with heap:=h' }):wpAny (model prog w) A (Builtin.SmallTypes.nextOf (.ref j)) Q E s:=by
 obtain⟨oj,ej,cj,dj⟩:=id hj;obtain⟨op,ep,_,m,dp⟩:=hp;have hn:¬ ((Value.ref tp == Value.none)=true):=zak
 unfold Builtin.SmallTypes.nextOf;refine zaa (zbF (name:=Str.ofString "__next__") hj.typeIs zbP (zbS zbP hj.typeIs zdh ?_ (zdb _)))
 show wpAny _ _ (field (.ref j) 0 >>= _) _ _ s
 refine zaa (zbs ej dj (x:=.ref tp) rfl ?_)
 show wpAny _ _ (if (Value.ref tp == Value.none)=true then _ else _) _ _ s
 rw[if_neg hn];show wpAny _ _ (field (.ref j) 1 >>= _) _ _ s
 refine zaa (zbs ej dj (x:=.int n 0) rfl ?_)
 show wpAny _ _ (seqItems? (.ref tp) >>= _) _ _ s
 refine zaa (wpAny_seqItems ep dp ?_)
 simp only[zbo,hv];refine zaa (zbH ej dj (by simp) (zag ⟨v,rfl,zag (k _ ⟨_,zaV _ ej (zch (zbk dj _)),(Obj.cls_mapFields ..).trans cj,?_⟩ (zbV ..))⟩))
 rw[zbk dj];simp[rawInt]
theorem HP (hh:A.handled=none)(hj:s.heap.IsTupleIter j tp n)(hp:s.heap.IsTuple tp vs)(hv:vs[n]? = none)
  (k:∀h' x,Heap.ExtBut j s.heap h'->(∃o,h'.get? x=some o/\o.cls = .type "StopIteration")->E (.ref x) {s with heap:=h' }):wpAny (model prog w) A (Builtin.SmallTypes.nextOf (.ref j)) Q E s:=by
 obtain⟨oj,ej,cj,dj⟩:=id hj;obtain⟨op,ep,_,m,dp⟩:=hp;have hn:¬ ((Value.ref tp == Value.none)=true):=zak
 unfold Builtin.SmallTypes.nextOf;refine zaa (zbF (name:=Str.ofString "__next__") hj.typeIs zbP (zbS zbP hj.typeIs zdh ?_ (zdb _)))
 show wpAny _ _ (field (.ref j) 0 >>= _) _ _ s
 refine zaa (zbs ej dj (x:=.ref tp) rfl ?_)
 show wpAny _ _ (if (Value.ref tp == Value.none)=true then _ else _) _ _ s
 rw[if_neg hn];show wpAny _ _ (field (.ref j) 1 >>= _) _ _ s
 refine zaa (zbs ej dj (x:=.int n 0) rfl ?_)
 show wpAny _ _ (seqItems? (.ref tp) >>= _) _ _ s
 refine zaa (wpAny_seqItems ep dp ?_)
 simp only[zbo,hv];refine zaa (wpAny_rule (zaa (zbH ej dj (by simp) ?_)))
 show wpAny _ _ (newExc (.type "StopIteration") [] >>= _) _ _ _
 refine zaa ?_
 simp only[newExc,newTuple];refine zaa (zaW ?_ (by size_fits))
 refine zaa (m:=firstArgMember _ _) (wpAny_of_eq (a:=Value.none) (by first|rfl | (simp only[firstArgMember];rfl)) (zaW ?_ (by size_fits)))
 simp only[raiseNew];refine zaa (wpAny_handled ?_)
 first|rw[show A.in1.handled=none from hh]|rw[hh]
 exact zaa (zag (wpAny_throw (k _ _ (((zbV ..).extBut.push _).push _) ⟨_,zap _ rfl,rfl⟩)))
theorem wB (hh:A.handled=none)(κ:Bool)(it a:Addr)(CD:a≠it)(bg:Array Value):
    Draws P w A it [it,a] bg.size (λi v=>bg[i]? = some v) (λi h=>nh κ h it a i/\sG κ h a bg):=by
  cases κ with
  |false=>exact Draws.list hh it a CD bg
  |true =>
    exact { live:=λi h st=>let ⟨o,e,_⟩:=st.1;⟨o,e⟩
            frame:=λi h h' st k=>⟨st.1.qO λo e=>k it (by simp) o e,st.2.qO λo e=>k a (by simp) o e⟩
            item:=λi s Q E hi st k=>Dn st.1 st.2 (v:=bg[i]) (by simp[hi]) λh' v8 sb=>k _ h' s.toks (by simp[hi]) ⟨v8,Heap.IsTuple.extBut st.2 sb.extBut CD⟩ sb
            done:=λs Q E st k=>HP hh st.1 st.2 (by simp) k}
theorem AE {St:Nat->Heap->Prop}(D:Draws P w A it fp n Y St)(k:Nat):
  Draws P w A it fp (n+k) (λi v=>Y (i - k) v) (λi h=>k<=i/\St (i - k) h) where
 live:=λi h st=>D.live _ _ st.2
 frame:=λi h h' st q=>⟨st.1,D.frame _ _ _ st.2 q⟩
 item:=λi s Q E hi st q=>D.item (i - k) s Q E (by have:=st.1;omega) st.2 λx h' tk p v8 sb=>q x h' tk p ⟨Nat.le_succ_of_le st.1,by rw[Nat.succ_sub st.1];exact v8⟩ sb
 done:=λs Q E st q=>D.done s Q E (by have:=st.2;rwa[Nat.add_sub_cancel] at this) q
theorem aL.src (I:aL X ah σ H s)(h:SqK X.K κ H a xs):∃bg:List Value,bN xs bg/\sG κ s.heap a bg.toArray/\xs.length<=sizeLine:=by
 cases κ with
 |true =>
  obtain⟨bg,r,p,z⟩:=I.fH h;exact⟨bg,r,p,z⟩
 |false =>
  obtain⟨bg,r,p,z⟩:=I.list h;exact⟨bg,r,p.isList,z⟩
theorem aL.QE (I:aL X ah σ H s)(h:SqK X.K κ H a xs)(h':SqK X.K κ H a ys):xs=ys:=by
 cases κ with
 |true=>exact I.vZ h h'
 |false=>exact I.rY h h'
noncomputable def Ite (K:PySem.W.Frag)(κ:Bool)(a:Addr)(st:Nat):It:=
 ⟨λi H=>∃xs x,SqK K κ H a xs/\xs[i]? = some x,λi H y H'=>∃T x,H T=none/\y = .ref T/\H'=bF H T (.gS [.int ((st+i:Nat):Int),x])/\∀xs,SqK K κ H a xs->xs[i]? = some x,λi H=>∃xs,SqK K κ H a xs/\xs.length=i⟩
theorem aL.Y9 {fp:List Addr}(I:aL X ah σ H s)(hf:∀b∈fp,pB X ah H b)(rx:bI x u)(ry:bI y v)
  (lt:∀b∈fp,b<s.heap.objs.size) (hT:h'.get? s.heap.objs.size=some { cls:=.type "tuple",data:=.seq #[u,v]}) (k:∀b o,b∉fp->s.heap.get? b=some o->h'.get? b=some o):
  aL X ah σ (bF H s.heap.objs.size (.gS [x,y])) {s with heap:=h',toks:=t' }/\∀b∈fp,bF H s.heap.objs.size (.gS [x,y]) b=none:=by
 have ne:∀b∈fp,b≠s.heap.objs.size:=λb hb=>zar (lt b hb)
 have fr:∀b∈fp,bF H s.heap.objs.size (.gS [x,y]) b=none:=λb hb=>by rw[au (ne b hb)];exact (hf b hb).1
 have I1:=I.jB (h':=s.heap.push { cls:=.type "tuple",data:=.seq #[u,v]}) (t':=t') (a:=s.heap.objs.size) (o:=.gS [x,y]) (λb o e=>zad _ e) (zah _)
  (show cJ X.prog X.w _ _ _ (.gS [x,y]) from ⟨(by show 2<=sizeLine;decide),[u,v],.cons rx (.cons ry .nil),IsTup.new _ _⟩)
 refine⟨aL.Fc (s:={ s with heap:=s.heap.push { cls:=.type "tuple",data:=.seq #[u,v]},toks:=t' }) (t':=t') (fp:=fp) I1 (λb o hb e=>?_) λb hb=>⟨fr b hb,(hf b hb).2⟩,fr⟩
 have e:(s.heap.push { cls:=.type "tuple",data:=.seq #[u,v]}).get? b=some o:=e
 by_cases z:b=s.heap.objs.size
 ·subst z
  rw[zap _ rfl] at e;cases e;exact hT
 ·rw[Heap.get?_push_ne _ _ _ z] at e
  exact k b o hb e
theorem HQ {P:Program}{w:World}{K:PySem.W.Frag}{QF:List Expr}{x1}{pos:Pos}(κ:Bool)(a e it:Addr)(st:Nat)(CD:e≠it):
  CT P w K (.Tuple QF x1 pos) (Ite K κ a st) [e,it] e (λi h=>(∃Qv,IsEnum h e it ((st+i:Nat):Int) Qv)/\nh κ h it a i) where
 mem:=by simp
 lG:=λi h t b hb=>by
  obtain⟨⟨Qv,he⟩,hi⟩:=t
  rcases zao.mp hb with rfl|hb
  ·exact⟨_,he,λv z=>by cases z⟩
  ·rw[zaw.mp hb]
   exact hi.lG
 keep:=λi h h' t k=>by
  obtain⟨⟨Qv,he⟩,hi⟩:=t
  exact⟨⟨Qv,k e (by simp) _ he⟩,hi.qO λo q=>k it (by simp) o q⟩
 item:=by
  intro X hP hw hK hc i ah s σ H E I hf t hg;subst hP hw hK;obtain⟨⟨Qv,he⟩,hi⟩:=t
  obtain⟨xs,x,hq,hx⟩:=hg;obtain⟨bg,rv,so,hz⟩:=I.src hq;obtain⟨u,hu,ru⟩:=rv.get hx;have hai:=hi.ne so;have hae:e≠a:=λz=>by
   subst z;cases κ with
   |true=>obtain⟨o',e',c',_⟩:=so;rw[he] at e';cases e';exact absurd (show Value.type "enumerate"=Value.type _ from c') (by decide)
   |false=>obtain⟨o',e',c',_⟩:=so;rw[he] at e';cases e';exact absurd (show Value.type "enumerate"=Value.type _ from c') (by decide)
  have jc:i<bg.toArray.size:=by
   have:=(zab.mp hu).1
   simpa using this
  have D:=AE (wB (P:=X.prog) (w:=X.w) (A:=X.A.in1) (show X.A.in1.handled=none from I.ok.hd hc) κ it a hai bg.toArray) st
  have qm:st<=st+i/\(nh κ s.heap it a (st+i - st)/\sG κ s.heap a bg.toArray):=⟨zcl _ _,by rw[zdI];exact hi,so⟩
  refine wpAny_pyNext_enum_itemD (i:=st+i) D he qm (by omega) CD (by simp;exact⟨CD,hae⟩) λv h' tk hv Dp v8 hT hsz kk=>⟨_,rfl,?_⟩
  have ev:v=u:=by
   have hv':bg.toArray[st+i - st]? = some v:=hv
   rw[zdI] at hv';have hu':bg.toArray[i]? = some u:=by simpa using hu
   rw[hu'] at hv';exact (zav hv').symm
  subst ev;refine wpAny_letOwnedTupleGo_enum (s:={s with heap:=h',toks:=tk+1}) Dp λh2 he2 sb2=>?_
  have sb2:Heap.SameBut e h' h2:=sb2
  have vJ:e<s.heap.objs.size:=zam he
  have ilt:it<s.heap.objs.size:=by obtain⟨o,q,_⟩:=hi.lG;exact zam q
  obtain⟨I2,fr⟩:=I.Y9 (h':=h2) (t':=tk+1) (fp:=[e,it]) (x:=.int ((st+i:Nat):Int)) (y:=x) (u:=.int ((st+i:Nat):Int) tk) (v:=v) hf ⟨_,rfl⟩ ru
   (λb hb=>by
    rcases zao.mp hb with rfl|hb
    ·exact vJ
    ·rw[zaw.mp hb];exact ilt)
   ((sb2.2 _ (zcg vJ)).trans hT) (λb o hb q=>(sb2.2 b λz=>hb (by simp[z])).trans (kk b o (λz=>hb (by simp[z])) (λz=>hb (by simp[z])) q))
  refine⟨.ref s.heap.objs.size,_,I2,rfl,⟨s.heap.objs.size,x,I.cA.fresh (zah _),rfl,rfl,λys hy=>by rw[I.QE hy hq];exact hx⟩,⟨⟨v,?_⟩,?_⟩,fr⟩
  ·have e1:((st+(i+1):Nat):Int)=((st+i:Nat):Int)+1:=by omega
   rw[e1];exact he2
  ·have q:=v8.2.1
   have e2:st+i+1 - st=i+1:=by omega
   rw[e2] at q;exact q.qO λo z=>(sb2.2 it CD.symm).trans z
 done:=by
  intro X hP hw hK hc i ah s σ H E I hf t hg;subst hP hw hK;obtain⟨⟨Qv,he⟩,hi⟩:=t
  obtain⟨xs,hq,hx⟩:=hg;obtain⟨bg,rv,so,hz⟩:=I.src hq;have hai:=hi.ne so;have D:=wB (P:=X.prog) (w:=X.w) (A:=X.A.in1) (show X.A.in1.handled=none from I.ok.hd hc) κ it a hai bg.toArray
  have hn:bg.toArray.size=i:=by
   have:=rv.length
   simp
   omega
  exact wpAny_pyNext_enum_endD D he (by rw[hn];exact⟨hi,so⟩) λh' eb=>⟨rfl,I.Fc (fp:=[e,it]) (t':=s.toks) (λb o hb q=>eb b o (λz=>hb (by simp[z])) q) hf⟩
 self:=λ_ _ _ _ _ t h=>let ⟨⟨_,he⟩,_⟩:=t;wpAny_pyIter_enum he h
noncomputable def alg (tv:TE):TE:=λσ H Q=>tv σ H λv H1=>(∃x,v = .str x/\x.length<=sizeLine/\Q (.str x) H1)\/(∃i:Int,v = .int i/\i.natAbs.log2<1920/\Q (.str (toString i)) H1)
theorem Y_ (h:PE X value tv):PE X (.FormattedValue value (-1) none pos) (alg tv):=by
 intro ah s σ H Q I hq;refine FormattedValue_plain (cH (h ah s σ H _ I hq) λv s1 bS=>?_)
 obtain⟨y,H1,I1,r,q⟩:=bS;rcases q with⟨x,rfl,hz,q⟩|⟨i,rfl,hd,q⟩
 ·obtain⟨t,rfl⟩:=r
  exact formatField_str (λt' tk=>⟨.str x,H1,I1.nZ tk,⟨_,rfl⟩,q⟩) hz
 ·obtain⟨t,rfl⟩:=r
  exact formatField_int_small hd ⟨.str (toString i),H1,I1.nZ _,⟨_,rfl⟩,q⟩
noncomputable abbrev TJ:=Str->TE
noncomputable def PJ (X:Cx)(es:List Expr)(t:TJ):Prop:=
 ∀(cg:Str) (ah:List (Addr×Obj)) (s:Shared) (σ:St) (H:Hp) (Q:VK),aL X ah σ H s->t cg σ H Q->wpAny (model X.prog X.w) X.A (joinParts cg (evalEach es X.env)) (EP X ah σ Q) X.xe s
noncomputable def afW:TJ:=λcg _ H Q=>cg.length<=sizeLine/\Q (.str cg) H
noncomputable def Za (te:TE)(tr:TJ):TJ:=λcg σ H Q=>te σ H λv H1=>∃y,v = .str y/\(cg++y).length<=sizeLine/\tr (cg++y) σ H1 Q
theorem Zb:PJ X [] afW:=λcg ah s σ H Q I h=>joinParts_nil ⟨.str cg,H,I.nZ _,⟨_,rfl⟩,h.2⟩ h.1
theorem QG (he:PE X e te)(hr:PJ X es tr):PJ X (e::es) (Za te tr):=by
 intro cg ah s σ H Q I h;show wpAny _ _ (joinParts cg (eval e X.env::evalEach es X.env)) _ _ _
 refine joinParts_cons (cH (he ah s σ H _ I h) λv s1 dB=>?_)
 obtain⟨z,H1,I1,r,y,ez,hz,q⟩:=dB;subst ez;obtain⟨t,rfl⟩:=r;exact⟨hz,hr _ ah s1 σ H1 Q I1 q⟩
theorem QH (h:PJ X (e1::e2::es) t):PE X (.JoinedStr (e1::e2::es) pos) (t Str.empty):=λah s σ H Q I hq=>JoinedStr_many (h Str.empty ah s σ H Q I hq)
theorem sH:bootBuiltins "enumerate"=some (.type "enumerate"):=by decide +kernel
noncomputable def iEn (K:PySem.W.Frag)(st:Nat)(ta:TA):TI:=λσ H R=>ta σ H λvs H1=>∃a xs,vs=[.ref a]/\iO K H1 a xs/\R (Ite K false a st) H1
theorem QI {x1}{st:Nat}(I:aL X ah σ H s)(he:IsEnum h' (s.heap.objs.size+1) s.heap.objs.size ((st:Nat):Int) .none)
  (hi:h'.IsListIter s.heap.objs.size a 0) (k:∀b o,s.heap.get? b=some o->h'.get? b=some o) (q:R (Ite X.K false a st) H):
  wpAny (model X.prog X.w) X.A (pyIter (.ref (s.heap.objs.size+1))) (PIE X ah σ (.Tuple QF x1 tp) R) X.xe {s with heap:=h' }:=by
 refine wpAny_pyIter_enum he ?_
 refine⟨s.heap.objs.size+1,[s.heap.objs.size+1,s.heap.objs.size],_,Ite X.K false a st,H,rfl,I.gH (t':=s.toks) k,HQ false a _ _ st (Nat.succ_ne_self _),⟨⟨.none,he⟩,hi⟩,λb hb=>?_,q⟩
 rcases zao.mp hb with rfl|hb
 ·exact I.Al (zbc _) (I.cA.fresh (zbc _))
 ·rw[zaw.mp hb]
  exact I.Al (zah _) (I.cA.fresh (zah _))
theorem QJ {x1}(hg:Gl X "enumerate")(hm:X.mg "enumerate"=none)(ha:PA X [a] ta)(hs:autoParam (starEach [a] X.env=[(false,eval a X.env)]) zp_0):
  PI X (.Tuple QF x1 tp) (.Call (.Name "enumerate" p) [a] [] pos) (iEn X.K 0 ta):=by
 intro ah s σ H R I h;refine Call_ (rX I hg hm sH (zbL (cH (ha pos ah s σ H _ I h) λus s1 eZ=>?_) hs rfl))
 obtain⟨vs,H1,I1,r1,l,xs,ev,hl,q⟩:=eZ;subst ev;obtain⟨u,rfl,ru⟩:=r1.JR;cases (show u=Value.ref l from ru)
 obtain⟨bg,r,pl,hz⟩:=I1.list hl;exact call_enumerate_list pl.isList λh' he hi _ k=>QI I1 he hi k q
section
variable {prog:Program}{w:World}{A:Around}{E:Value->Shared->Prop}{s:Shared}{Z TI TO i1 i2:Addr}{fp1 fp2:List Addr}{n1 n2 k:Nat}{Y1 Y2:Nat->Value->Prop}{S1 S2:Nat->Heap->Prop}{p q:Value}
end
open AutoSeq1 (wpAny_loadPart')
theorem K_ (a b:Str):(a++b).cps.toList=a.cps.toList++b.cps.toList:=by rw[Str.cps_append,Array.toList_append]
end L2
namespace L2
open PySem PySem.Spec PyProof.Rows
theorem QK (S:dw X F T fr sc)(hc:X.fQ=true)(hi:PI X target dW wi)
  (hg:∀C fp s H xe,PG (qx X (F++T) sc C fp s H xe) target g) (Qu:∀C fp s H xe,Dh (qx X (F++T) sc C fp s H xe) qQ ti) (he:∀C fp s H xe,PE (qx X (F++T) sc C fp s H xe) vJ te)
  (hN:X.N.Nodup) (hiy:X.N[i0]? = some y) (hly:X.env.scope.names.lookup y=some .local) (hex:X.ex=[])
  (QL:autoParam (swapsWith (.ListComp vJ [⟨target,dW,qQ,0⟩] sc pos) (some (.Name y py)) Zc.line X.env=pure true) zp_0) (hs:autoParam (∀x,foldedSetIterable dW X.env x=pure x) zp_3):PS X (.Assign [.Name y py] (.ListComp vJ [⟨target,dW,qQ,0⟩] sc pos) Zc) (Pz (E_ wi fr T g ti te) (EW i0)):=by
 intro ah s σ H DD I h;rw[exec_Assign_Name_used _ _ _ _ QL];refine zaa (zcH (zaa ?_))
 show wpAny _ X.A (do let _ <-comprehension (.ListComp vJ [⟨target,dW,qQ,0⟩] sc pos) sc X.env _ (newList []) false (eval dW X.env) (some (assign (.Name y py) X.env))) _ _ s
 refine zaa (zaI (AB (use:=some (assign (.Name y py) X.env)) (QQ:=λ_ s'=>SP X ah DD .next s') S hc hi hg Qu he hs I h λD C fp s3 s7 H3 H6 xe J7 I3 f3 Qw I7 qn=>?_) (λ_ s' hq=>zag (zag hq)) λ_ _ e=>e)
 obtain⟨m7,hn7,_⟩:=I7.z9;have hCn:H6 C=none:=I7.free
 have I8:aL X ah σ H6 s7:=I3.ET (s':=s7) (H':=H6) (ch:=fp) I7.os I7.base I7.cA I7.g7 λb hb=>by
  obtain⟨_,q1,_,q2,q3,q4⟩:=f3 b hb;exact⟨q2,q1,q3,q4⟩
 have Cge:X.s₀.heap.objs.size<=C:=by rw[<-Qw];exact I3.sz
 have CL:C≠X.env.locals:=λz=>by
  have:=I3.lt
  rw[<-z,<-Qw] at this;exact zaP _ this
 have CC:∀z c,X.env.cells.lookup z=some c->c≠C:=λz c e q=>by
  obtain⟨v,hv⟩:=I3.cell z c e
  have:=hv.lt
  rw[q,<-Qw] at this;exact zaP _ this
 have CP:∀p∈X.pn++ah,p.1≠C:=λp hp q=>by
  have:=zam (I3.Ah p hp).1
  rw[q,<-Qw] at this;exact zaP _ this
 show wpAny _ X.A (assign (.Name y py) X.env (.ref D)) _ _ s7
 refine wpAny_assign_Name (vW I8 hN hiy (.inl hly) (v:=.ref D) rfl (λs8 I9 sb=>?_) (.inr hly))
 obtain⟨a8,sb8,ha8⟩:=sb;have a8C:C≠a8:=by
  rcases ha8 with z|z
  ·rw[z];exact CL
  ·exact zbd (CC _ _ z)
 refine⟨m7,hn7.sameBut sb8 a8C,λh9 hs9=>⟨_,H6,?_,qn⟩⟩
 exact I9.iN (it:=C) (t':=s8.toks) (λb o nb e=>(hs9.2 b nb).trans e) hCn CL (.inr Cge) CC CP
noncomputable def Zd:V->List V->Hp->VK->Prop:=λx vs H Q=>∃(l:Addr) (xs:List V) (y z:V) (j:Nat),x = .ref l/\vs=[y]/\H l=some (.bM xs)/\iu y=true/\xs.all iu=true/\xs[j]? = some z/\yI z y=true/\(∀m z',m<j->xs[m]? = some z'->yI z' y=false)/\Q (.int (j:Int)) H
theorem La:MtM X "list.index" Zd:=by
 intro ah s σ H x vs v us Q I rx rv h;obtain⟨l,xs,y,z,j,rfl,rfl,hH,fy,fs,hj,he,hno,q⟩:=h;cases rx;obtain⟨u,rfl,ru⟩:=rv.JR;obtain⟨hz,bg,n,r,hl,e⟩:=I.HH hH;have hs:sizeLine=16777216:=by decide
 have jl:j<bg.length:=by rw[<-hl];exact (zab.mp hj).1
 have qO:∀(m:Nat) (hm:m<bg.length),∃z',xs[m]? = some z'/\Ax y bg[m]=yI z' y:=λm hm=>by
  have hm':m<xs.length:=by omega
  obtain⟨w',hw,C9⟩:=r.get (zae hm')
  have ew:bg[m]=w':=by
   rw[zae hm] at hw;exact zav hw
  refine⟨_,zae hm',?_⟩
  rw[ew];exact Df C9 (zaS.mp fs _ (zcm _))
 refine call_meets F.slot_list_index ⟨_,e,rfl⟩ F.entry_list_index (F.args_list_index_2 _ _)
  (SeqAt.list_indexAt l bg.toArray n none #[] u (Ax y) j (by simpa using jl) (by omega) ?_ ?_) ⟨e,?_,⟨.int (j:Int),H,I.nZ _,⟨_,rfl⟩,q⟩⟩
 ·obtain⟨z',e1,e2⟩:=qO j jl
  rw[hj] at e1;cases e1;have:bg.toArray[j]'(by simpa using jl)=bg[j]:=by simp
  rw[this,e2];exact he
 ·intro m hm hmj
  have hm':m<bg.length:=by simpa using hm
  obtain⟨z',e1,e2⟩:=qO m hm';have:bg.toArray[m]'hm=bg[m]:=by simp
  rw[this,e2];exact hno m z' hmj e1
 ·intro w' hw
  exact jG ru fy r fs w' (by simpa using hw)
noncomputable def iR (C:Addr)(od:Option Addr)(t:Addr)(tb:Value):Obj:={cls:=.ref C,dict:=od,data:=.fields #[.ref t,tb,.none,.none,.bool false,.none]}
noncomputable def vL (h:Heap)(T:Addr):Prop:=∃oT ts,h.get? T=some oT/\oT.data = .fields ts/\ts[3]? = some Value.none
section
variable {M:Model}{A:Around}{E:Value->Shared->Prop}{s:Shared}
structure Lb (S:List Addr) (a C t:Addr) (od:Option Addr) (h h':Heap) (T:Addr):Prop where
 lG:h'.get? a=some (iR C od t (.ref T))
 tb:vL h' T
 new:h.objs.size<=T
 keep:∀b o,h.get? b=some o->b≠a->b∉S->h'.get? b=some o
 slot:∀b o,h.get? b=some o->b≠a->∃sl,h'.get? b=some {o with slots:=sl}
theorem wC 
  (HS:A.frames=some (env::outer)) (hl:s.heap.FunFrames base (env::outer)) (hf:env.frame=some L) (ha:s.heap.get? a=some (iR C od t tb))
  (k:∀h' T,Lb ((env::outer).filterMap (·.frame)) a C t od s.heap h' T->Q () {s with heap:=h' }):
  wpAny M A (do let fr <-frameOf env;let pl <-entryPlaceOf L ajH;let b <-EntryCells.newEntry head fr .none (rawInt L) .none pl;setField (.ref a) 1 b) (λ_ s'=>wpAny M A (setFlight (.ref a) none) Q E s') E s:=by
 have na:a∉(env::outer).filterMap (·.frame):=λhm=>by
  obtain⟨_,o,ho,hnf⟩:=hl.mem hm;rw[ha] at ho;cases ho;exact hnf _ rfl
 refine zaa (wpAny_frameOf_fun HS hl hf λg1 HU=>zaa (wpAny_entryPlaceOf λpl iA=>?_))
 unfold EntryCells.newEntry newFields;refine zaa (zaW ?_ (iA.sizeOk5 _ _ _ _ _))
 have Lc:g1.get? a=some (iR C od t tb):=(HU.2.1 a na).trans ha
 generalize hts:([head,Value.ref L,Value.none,rawInt L,Value.none]++(if pl.isEmpty then List.replicate 6 Value.none else pl)).toArray=ts
 have h3:3<ts.size:=by rw[<-hts];simp only[zan,zaf,zaD,zaG];omega
 have ha2:(g1.push { cls:=.type "traceback",dict:=none,data:=.fields ts}).get? a=some (iR C od t tb):=zad _ Lc
 have Ta:g1.objs.size≠a:=zcg (zam Lc)
 refine zbH ha2 rfl (by show 1<6;decide) ?_
 have ha3:((g1.push { cls:=.type "traceback",dict:=none,data:=.fields ts}).update a (Obj.mapFields (·.setIfInBounds 1 (Value.ref g1.objs.size)))).get? a=some (iR C od t (.ref g1.objs.size)):=by
  rw[zaV _ ha2 rfl];rfl
 have Ze:((g1.push { cls:=.type "traceback",dict:=none,data:=.fields ts}).update a (Obj.mapFields (·.setIfInBounds 1 (Value.ref g1.objs.size)))).get? g1.objs.size=some { cls:=.type "traceback",dict:=none,data:=.fields ts}:=
  (zaC _ _ (zbd Ta)).trans (zap g1 rfl)
 unfold setFlight;refine zaa (zbs ha3 rfl (x:=.ref g1.objs.size) rfl ?_)
 rw[if_pos (show (Value.ref g1.objs.size != Value.none)=true from by simp)]
 refine zbH Ze rfl h3 (k _ g1.objs.size ?_)
 have keep:∀b o,b≠a->g1.get? b=some o->(((g1.push { cls:=.type "traceback",dict:=none,data:=.fields ts}).update a (Obj.mapFields (·.setIfInBounds 1 (Value.ref g1.objs.size)))).update g1.objs.size
   (Obj.mapFields (·.setIfInBounds 3 ((none:Option Addr).elim Value.none λf=>rawInt f)))).get? b=some o:=λb o nb hb=>by
  have hbT:g1.objs.size≠b:=zcg (zam hb)
  rw[zaC _ _ hbT,zaC _ _ (zbd nb)];exact zad _ hb
 refine⟨?_,⟨_,_,zaV _ Ze rfl,rfl,by simp[h3]⟩,by rw[HU.1];exact zah _,λb o hb nb nS=>keep b o nb ((HU.2.1 b nS).trans hb),λb o hb nb=>?_⟩
 ·rw[zaC _ _ Ta]
  exact ha3
 ·obtain⟨sl,hs⟩:=HU.2.2 b o hb
  exact⟨sl,keep b _ nb hs⟩
theorem AF 
  (HS:A.frames=some (env::outer)) (hl:s.heap.FunFrames base (env::outer)) (hf:env.frame=some L) (ha:s.heap.get? a=some (iR C od t .none))
  (k:∀h' T,Lb ((env::outer).filterMap (·.frame)) a C t od s.heap h' T->Q () {s with heap:=h' }):wpAny M A (leaving env (.ref a)) Q E s:=by
 unfold leaving noteFrame;simp only[hf];refine zaa (zaa (zbs ha rfl (x:=.none) rfl ?_))
 rw[if_neg (by decide)]
 exact wC HS hl hf ha k
theorem HV 
  (HS:A.frames=some (env::outer)) (hl:s.heap.FunFrames base (env::outer)) (hf:env.frame=some L) (ha:s.heap.get? a=some (iR C od t (.ref T))) (hT:vL s.heap T) (nT:T≠a)
  (k:∀h1 h' T',(∀b o,b≠T->s.heap.get? b=some o->h1.get? b=some o)->vL h1 T->h1.objs.size=s.heap.objs.size->Lb ((env::outer).filterMap (·.frame)) a C t od h1 h' T'->Q () {s with heap:=h' }):wpAny M A (noteFrame (.ref a) env) (λ_ s'=>wpAny M A (setFlight (.ref a) none) Q E s') E s:=by
 obtain⟨oT,ts,eT,dT,h3⟩:=hT;unfold noteFrame;simp only[hf];refine zaa (zbs ha rfl (x:=.ref T) rfl ?_)
 rw[if_pos (show (Value.ref T != Value.none)=true from by simp)]
 refine zaa (zbs eT dT h3 ?_)
 rw[if_neg (show ¬ ((Value.none == rawInt L)=true) from by simp[rawInt])]
 have sz:=(zdl.mp h3).1
 refine zaa (zbH eT dT sz ?_)
 have EM:∀b o,b≠T->s.heap.get? b=some o->(s.heap.update T (Obj.mapFields (·.setIfInBounds 3 Value.none))).get? b=some o:=λb o nb e=>(zaC _ _ (zbd nb)).trans e
 have fT:(s.heap.update T (Obj.mapFields (·.setIfInBounds 3 Value.none))).get? T=some (Obj.mapFields (·.setIfInBounds 3 Value.none) oT):=zaV _ eT (zch (zbk dT _))
 have hl':(s.heap.update T (Obj.mapFields (·.setIfInBounds 3 Value.none))).FunFrames base (env::outer):=hl.of_keeps λb o hb hnf=>⟨o,EM b o (λq=>by rw[q,eT] at hb;cases hb;exact hnf ts dT) hb,rfl⟩
 refine wC (s:={s with heap:=s.heap.update T (Obj.mapFields (·.setIfInBounds 3 Value.none))}) HS hl' hf (EM a _ (zbd nT) ha) λh' T' lf=>k _ h' T' EM ⟨_,_,fT,zbk dT _,by simp[sz]⟩ ?_ lf
 exact (zbV ..).1
end
theorem HW (hh:A.handled=none)
  (h:wpAny M A x (λv s1=>∃(a t:Addr) (od:Option Addr) (nm q:Str) (C N:Addr) (bs bm:List Value) (qR:Bool) (sn:List Str) (sub:List Value) (ab:Bool) (sF:Option Bool) (dd:Option Addr) (k0 k1 k2 k3 k5:Option Value) (oG:String),v = .ref a /\
   bm.contains (.type "BaseException")=true/\s1.heap.get? C=some (excClassObj nm q C N bs bm qR sn sub ab sF dd k0 k1 k2 k3 k5 oG)/\s1.heap.get? a=some (j7 C od t)/\E (.ref a) s1) E s):wpAny M A (raiseStmt env (some x) none) Q E s:=by
 unfold raiseStmt;refine zaa (zaI h (λv s1 h1=>?_) λ_ _ z=>z)
 obtain⟨a,t,od,nm,q,C,N,bs,bm,qR,sn,sub,ab,sF,dd,k0,k1,k2,k3,k5,oG,rfl,hb,hC,ha,hE⟩:=h1;have hcb:(Value.ref C::bm).contains (.type "BaseException")=true:=by rw[zby,hb,zcx]
 unfold j7 at ha;obtain⟨hp,g,d,tk,os⟩:=s1;repeat (first|with_reducible refine zbC ha ?_|with_reducible refine zbC hC ?_ | (with_reducible refine zcp hC ?_;rw[hcb])|wp_step)
 exact wpAny_raiseNew_none hh hE
noncomputable def qy (a C:Addr)(od:Option Addr)(T:Addr):HO:=.ext λh=>∃t:Addr,h.get? a=some (iR C od t (.ref T))
noncomputable def TB (T:Addr):HO:=.ext λh=>vL h T
theorem Ld (e:h.get? a=some (iR C od t (.ref T))):cJ P w H h a (qy a C od T):=
 ⟨⟨t,e⟩,⟨_,e⟩,λh1 h2 bS k=>by obtain⟨t',e'⟩:=bS;exact⟨t',k _ e'⟩⟩
theorem Fd (e:vL h T):cJ P w H h T (TB T):=by
 obtain⟨oT,ts,e1,e2,e3⟩:=id e;exact⟨e,⟨_,e1⟩,λh1 h2 dB k=>by obtain⟨o,ts',x1,x2,x3⟩:=dB;exact⟨o,ts',k _ x1,x2,x3⟩⟩
noncomputable def vF (P:Program)(w:World):CA:=λouter H s E e s'=>∃(a T C:Addr) (od:Option Addr) (H':Hp),e = .ref a/\s'.os=s.os/\AllBare s'.gens/\Un (qZ outer) [] H H' s.heap s'.heap/\mD P w H' s'.heap /\
 H' a=some (qy a C od T)/\H' T=some (TB T)/\T≠a/\E (.ref C) (some a) H'
noncomputable def Zf (K:PySem.W.Frag)(E:XK)(te:TE):TS:=λ_ σ H=>te σ H λv H1=>∃(a C f:Addr) (bm:List Value) (od:Option Addr),v = .ref a/\H1 a=some (EO a C od)/\oF K C f bm /\
 ∀T,H1 T=none->T≠a->E (.ref C) (some a) (bF (bF H1 a (qy a C od T)) T (TB T))
section
variable {P:Program}{w:World}{K:PySem.W.Frag}{mg:Str->Option Value}{base:Heap}{N:List Str}{b_:Str}{scope:Scope}{f:Addr}{eY:Value}{A:Around}{outer:List Env}{s₀:Shared}{H₀:Hp}{E:XK}
theorem QM (I:aL (je (vF P w) P w K mg base N b_ scope f eY A outer s₀ H₀ E) ah σ H s)(ha:∃ φ,H a=some (.ext φ))(Ta:T≠a)
  (Lf:Lb (qZ ((je (vF P w) P w K mg base N b_ scope f eY A outer s₀ H₀ E).env::outer)) a C t od s.heap h' T):
  Un (qZ outer) [] H₀ (bF (bF H a (qy a C od T)) T (TB T)) s₀.heap h'/\mD P w (bF (bF H a (qy a C od T)) T (TB T)) h':=by
 obtain⟨φ,ha⟩:=ha;have hT:H T=none:=I.cA.fresh Lf.new
 have lt:∀b o,s₀.heap.get? b=some o->b<s₀.heap.objs.size:=λb o e=>zam e
 have sz:s₀.heap.objs.size<=s.heap.objs.size:=I.sz
 have bT:∀b o,s₀.heap.get? b=some o->b≠T:=λb o e=>zar (zal (lt b o e) (zai sz Lf.new))
 have nf:∀b o,s₀.heap.get? b=some o->b∉qZ outer->b∉qZ ((je (vF P w) P w K mg base N b_ scope f eY A outer s₀ H₀ E).env::outer):=λb o e nb z=>by
  have z':b∈((je (vF P w) P w K mg base N b_ scope f eY A outer s₀ H₀ E).env::outer).filterMap (·.frame):=z
  rw[zcn] at z';have:b=s₀.heap.objs.size\/b∈qZ outer:=by
   have z2:b∈s₀.heap.objs.size::outer.filterMap (·.frame):=z'
   exact zao.mp z2
  rcases this with q|q
  ·exact absurd (lt b o e) (by rw[q];exact zaP _)
  ·exact nb q
 have U:=I.base;refine⟨⟨λb o e n1 n2 n3=>?_,λb o e n1 n2 n3=>?_,λb o e n1 n2=>?_,λb o e n2=>?_,λb xs e=>?_,λb o u e=>?_,λb ps e=>?_⟩,λb u e=>?_⟩
 ·have e1:=U.keep b o e n1 n2 n3
  have nb:b≠a:=λz=>by
   have:=U.free b o e n1 n3
   rw[z,ha] at this;cases this
  exact Lf.keep b o e1 nb (nf b o e n2)
 ·obtain⟨sl,e1⟩:=U.slot b o e n1 n2 n3
  have nb:b≠a:=λz=>by
   have:=U.free b o e n1 n3
   rw[z,ha] at this;cases this
  obtain⟨Kz,e2⟩:=Lf.slot b _ e1 nb;exact⟨Kz,e2⟩
 ·have e1:=U.free b o e n1 n2
  have nb:b≠a:=λz=>by rw[z,ha] at e1;cases e1
  rw[au (bT b o e),au nb];exact e1
 ·obtain⟨o',e1⟩:=U.there b o e n2
  by_cases z:b=a
  ·rw[z];exact⟨_,Lf.lG⟩
  ·obtain⟨sl,e2⟩:=Lf.slot b o' e1 z
   exact⟨_,e2⟩
 ·have e1:=U.rP b xs e
  have nb:b≠a:=λz=>by rw[z,ha] at e1;cases e1
  have nT:b≠T:=λz=>by rw[z,hT] at e1;cases e1
  rw[au nT,au nb];exact e1
 ·have e1:=U.qM b o u e
  have nb:b≠a:=λz=>by rw[z,ha] at e1;cases e1
  have nT:b≠T:=λz=>by rw[z,hT] at e1;cases e1
  rw[au nT,au nb];exact e1
 ·obtain⟨jr,e1⟩:=U.rQ b ps e
  have nb:b≠a:=λz=>by rw[z,ha] at e1;cases e1
  have nT:b≠T:=λz=>by rw[z,hT] at e1;cases e1
  exact⟨jr,by rw[au nT,au nb];exact e1⟩
 ·by_cases zT:b=T
  ·subst zT
   rw[az] at e;cases e;exact Fd Lf.tb
  ·rw[au zT] at e
   by_cases za:b=a
   ·subst za
    rw[az] at e;cases e;exact Ld Lf.lG
   ·rw[au za] at e
    have free:∀c,c∈qZ ((je (vF P w) P w K mg base N b_ scope f eY A outer s₀ H₀ E).env::outer)->H c=none:=λc hc=>I.An.JV c hc
    refine (I.cA b u e).pA (λc v hc q=>?_) (λc hc=>?_) (λc xs hc=>?_)
    ·have hcn:∃uu,H c=some uu/\c≠a:=by
      rcases hc with z|z
      ·exact⟨u,by rw[z];exact e,by rw[z];exact za⟩
      ·exact⟨_,z,λq=>by rw[q,ha] at z;cases z⟩
     obtain⟨uu,h1,h2⟩:=hcn;refine Lf.keep c v q h2 λz=>?_
     rw[free c z] at h1;cases h1
    ·have nb:c≠a:=λz=>by rw[z,ha] at hc;cases hc
     have nT:c≠T:=λz=>by rw[z,hT] at hc;cases hc
     rw[au nT,au nb];exact hc
    ·have nb:c≠a:=λz=>by rw[z,ha] at hc;cases hc
     have nT:c≠T:=λz=>by rw[z,hT] at hc;cases hc
     rw[au nT,au nb];exact hc
theorem Le (he:PE (je (vF P w) P w K mg base N b_ scope f eY A outer s₀ H₀ E) ex te):
  PS (je (vF P w) P w K mg base N b_ scope f eY A outer s₀ H₀ E) (.Raise (some ex) none pos) (Zf K E te):=by
 intro ah s σ H D I h;rw[arm_exec_Raise];refine zaa (zcH (HW (I.ok.hd rfl) ?_))
 refine zaa (zaI (he ah s σ H _ I h) (λv s1 ⟨y,H1,I1,r,a,C,g,bm,od,ey,ha,Mk,q⟩=>zaa (zcH (zag ?_))) λ_ _ z=>z)
 subst ey;cases (show v=Value.ref a from r)
 obtain⟨nm,qn,N',bs,sn,sub,ab,sF,dd,k0,k1,k2,k3,k5,lk⟩:=Mk.lG;obtain⟨B,eb⟩:=Mk.nb;obtain⟨t,ea⟩:=K5 I1 ha;have hb:bm.contains (.type "BaseException")=true:=by
  rw[eb,zby];have:q_.contains (.type "BaseException")=true:=by decide +kernel
  rw[this,zcx]
 refine⟨a,t,od,nm,qn,C,N',bs,bm,true,sn,sub,ab,sF,dd,k0,k1,k2,k3,k5,"ValueError.__new__",rfl,hb,I1.nY _ _ lk,ea,?_⟩
 refine AF (base:=base) (env:=(je (vF P w) P w K mg base N b_ scope f eY A outer s₀ H₀ E).env) (outer:=outer) I1.ok.frames I1.An.ly rfl (show s1.heap.get? a=some (iR C od t .none) from ea) λh' T Lf=>?_
 have Ta:T≠a:=zcg (zal (zam ea) Lf.new)
 obtain⟨un,cA⟩:=QM I1 ⟨_,ha⟩ Ta Lf
 exact⟨a,T,C,od,_,rfl,I1.os,I1.g7,un,cA,by rw[au Ta.symm];exact az,az,Ta,q T (I1.cA.fresh Lf.new) Ta⟩
theorem KS.okX {st:Stmt}(F:KS K x b_ st f fd)(S:aq N ps (aj st))(len:∀vs H Q E,sp vs H Q E->vs.length=ps.length)
  (sj:∀(eY:Value) (A:Around) (outer:List Env) (s:Shared) (H:Hp) (vs:List V) (Q:VK) (E:XK),gE k (A.deeper (envOfC b_ (aj st) s.heap.objs.size f eY))->sp vs H Q E ->
   ∃t,vY (je (vF P w) P w K mg base N b_ (aj st) f eY A outer s H E) (cP st) t/\t {nx:=λ_ H'=>Q .bu H',rt:=Q} (cS N vs) H):aN P w K mg base (vF P w) (k+1) f fd ps sp:=by
 obtain⟨oc,od,kV,nD,pm,an,eY,ct,C7,rfl,lk,Aj⟩:=F.ex;exact Kp lk Aj S len λA outer s H vs Q E hr JI=>sj eY A outer s H vs Q E hr JI
end
theorem aL.Lg (I:aL X ah σ H s)(ha:H a=some (qy a C od T))(hT:H T=some (TB T))(Ta:T≠a)(Ta':T'≠a)(k1:∀b o,b≠T->s.heap.get? b=some o->h1.get? b=some o)(tb1:vL h1 T)(z1:h1.objs.size=s.heap.objs.size)
  (Lf:Lb (qZ X.c8) a C t od h1 h' T'):aL X ah σ (bF (bF H a (qy a C od T')) T' (TB T')) {s with heap:=h' }:=by
 have nT':H T'=none:=I.cA.fresh (by rw[<-z1];exact Lf.new)
 have free:∀c,c∈qZ X.c8->H c=none:=λc hc=>I.An.JV c hc
 have TS:T∉qZ X.c8:=λz=>by rw[free T z] at hT;cases hT
 have aS:a∉qZ X.c8:=λz=>by rw[free a z] at ha;cases ha
 have bT':∀b o,s.heap.get? b=some o->b≠T':=λb o e=>zar (zal (zam e) (by rw[<-z1];exact Lf.new))
 have ne:∀{b},H b=none->b≠a/\b≠T:=λ{b} n=>⟨λz=>(by rw[z,ha] at n;cases n),λz=>(by rw[z,hT] at n;cases n)⟩
 have tb':vL h' T:=by
  obtain⟨oT,ts,e1,e2,e3⟩:=tb1;exact⟨oT,ts,Lf.keep T oT e1 Ta TS,e2,e3⟩
 have ex:∀{b u},H b=some u->(∀ φ,u ≠ .ext φ)->bF (bF H a (qy a C od T')) T' (TB T') b=some u:=λ{b u} e n=>by
  have nb:b≠a:=λz=>by rw[z,ha] at e;exact n _ (zav e).symm
  have nt:b≠T':=λz=>by rw[z,nT'] at e;cases e
  rw[au nt,au nb];exact e
 refine I.ET (s':={s with heap:=h' }) (ch:=[]) rfl ⟨λb o e n1 n2 n3=>?_,λb o e n1 n2 n3=>?_,λb o e n1 n2=>?_,λb o e n2=>?_,λb xs e=>ex e (λφ z=>by cases z),λb o u e=>ex e (λφ z=>by cases z),λb ps e=>⟨#[],by rw[ex e (λφ z=>by cases z)];simp⟩⟩ (λb u e=>?_) I.g7 (λb z=>absurd z (by simp))
 ·exact Lf.keep b o (k1 b o (ne n1).2 e) (ne n1).1 n2
 ·exact Lf.slot b o (k1 b o (ne n1).2 e) (ne n1).1
 ·rw[au (bT' b o e),au (ne n1).1]
  exact n1
 ·by_cases za:b=a
  ·rw[za];exact⟨_,Lf.lG⟩
  ·by_cases zT:b=T
   ·rw[zT]
    obtain⟨oT,ts,e1,_⟩:=tb';exact⟨oT,e1⟩
   ·obtain⟨sl,e2⟩:=Lf.slot b o (k1 b o zT e) za
    exact⟨_,e2⟩
 ·by_cases zT':b=T'
  ·subst zT'
   rw[az] at e;cases e;exact Fd Lf.tb
  ·rw[au zT'] at e
   by_cases za:b=a
   ·subst za
    rw[az] at e;cases e;exact Ld Lf.lG
   ·rw[au za] at e
    by_cases zT:b=T
    ·subst zT
     rw[hT] at e;cases e;exact Fd tb'
    ·refine (I.cA b u e).pA (λc v hc q=>?_) (λc hc=>ex hc (λφ z=>by cases z)) (λc xs hc=>ex hc (λφ z=>by cases z))
     have hcn:∃uu,H c=some uu/\c≠a/\c≠T:=by
      rcases hc with z|z
      ·exact⟨u,by rw[z];exact e,by rw[z];exact za,by rw[z];exact zT⟩
      ·exact⟨_,z,λq=>(by rw[q,ha] at z;cases z),λq=>(by rw[q,hT] at z;cases z)⟩
     obtain⟨uu,g1,g2,g3⟩:=hcn;exact Lf.keep c v (k1 c v g3 q) g2 λz=>by rw[free c z] at g1;cases g1
theorem rm (I:aL X ah σ H s)(hN:X.N.Nodup)(hi:X.N[l]? = some n)(hx:X.env.scope.names.lookup n=some .local)
  (h:∀s',aL X ah (σ.set l none) H s'->Q () s'):wpAny M A (do bindName X.env n .none;unbindBehindTheSuite X.env n pos) Q E s:=by
 have JY:(X.env.scope.kind == .class || (X.env.scope.kind == .module && X.env.locals != X.env.globals))=false:=by rw[I.ok.kind];rfl
 refine zaa (wpAny_bindName (om I hN hi (.inl hx) (v:=.bu) rfl (λs1 I1=>?_) (.inr hx)))
 unfold unbindBehindTheSuite;refine wpAny_onRaise ?_
 unfold unbindName;refine zaa (wpAny_point (zaa ?_))
 unfold deleteName;have E3:X.env.kindOf n=some .local:=hx
 simp only[E3,JY];rw[if_neg (by decide)]
 obtain⟨m,hn,hl⟩:=id I1.z9;have afZ:l<σ.length:=by rw[I.len];exact (zab.mp hi).1
 have isS:(m n).isSome=true:=by
  obtain⟨u,r,q⟩:=hl l n .bu hi (by rw[zaB afZ]) (.inl hx)
  rcases q with⟨_,q⟩|⟨kk,_⟩
  ·rw[q];rfl
  ·rcases kk with kk|kk<;>(rw[E3] at kk;cases kk)
 refine zaa (wpAny_nsDel_keeps hn λh2 v JG hs=>?_)
 rw[isS];simp only[Bool.not_true,zcd,if_false];refine zag (wpAny_point (h _ ?_))
 obtain⟨oL,_,_,hoL,_⟩:=id hn;have JW:=I1.JW;have oh:mD X.prog X.w H h2:=λb ob e=>by
  refine (I1.cA b ob e).pA (λc w' hc q=>(hs.2 c ?_).trans q) (λ_ q=>q) λ_ _ q=>q
  intro z;rcases hc with hc|hc
  ·rw[<-hc,z,I1.free] at e;cases e
  ·rw[z,I1.free] at hc;cases hc
 refine⟨I1.ok,I1.os,I1.g7,⟨λb o e n hb hx=>?_,λb o e n hb hx=>?_,I1.base.free,λb o e hx=>?_,I1.base.rP,I1.base.qM,I1.base.rQ⟩,⟨_,JG,λj y v' e1 e2 e3=>?_⟩,λy c e=>?_,I1.free,I1.jC,λp hp=>?_,oh,by simpa using I.len⟩
 ·exact (hs.2 b (zar (zal (zam e) I.ok.above))).trans (I1.base.keep b o e n hb hx)
 ·obtain⟨sl,e1⟩:=I1.base.slot b o e n hb hx
  exact⟨sl,(hs.2 b (zar (zal (zam e) I.ok.above))).trans e1⟩
 ·obtain⟨o',e1⟩:=I1.base.there b o e hx
  exact⟨o',(hs.2 b (zar (zal (zam e) I.ok.above))).trans e1⟩
 ·by_cases hj:j=l
  ·subst hj
   rw[zaB afZ] at e2;cases e2
  ·rw[zaA (zbd hj)] at e2
   obtain⟨u',r',q⟩:=hl j y v' e1 (by rw[zaA (zbd hj)];exact e2) e3
   refine⟨u',r',?_⟩
   rcases q with⟨k,e⟩|⟨k,c,e,z⟩
   ·refine .inl ⟨k,?_⟩
    have:y≠n:=λe=>hj (rT hN e1 (e ▸ hi))
    simp[this,e]
   ·exact .inr ⟨k,c,e,z.sameBut hs (JW y c e)⟩
 ·obtain⟨w',z⟩:=I1.cell y c e
  exact⟨w',z.sameBut hs (JW y c e)⟩
 ·obtain⟨e,n,ne,nf,d⟩:=I1.Ah p hp
  exact⟨(hs.2 p.1 ne).trans e,n,ne,nf,d⟩
noncomputable def Cx.j8 (X:Cx)(a:Addr):Cx:={X with A:=X.A.mark (some (.ref a)),fQ:=false}
theorem aL.j8 (I:aL X ah σ H s)(a:Addr):aL (X.j8 a) ah σ H s:=
 ⟨⟨I.ok.rS,I.ok.kind,I.ok.rR,I.ok.Ua,I.ok.above,I.ok.inj,I.ok.has,I.ok.X0,λh=>absurd (show false=true from h) zak,I.ok.frames,I.ok.stk,I.ok.exf,I.ok.bs,I.ok.O_,I.ok.jd,I.ok.CQ,I.ok.ly,I.ok.JV⟩,I.os,I.g7,I.base,I.z9,I.cell,I.free,I.jC,I.Ah,I.cA,I.len⟩
theorem aL.oH {a:Addr}(I:aL (X.j8 a) ah σ H s)(hd:X.fQ=true->X.A.handled=none):aL X ah σ H s:=
 ⟨⟨I.ok.rS,I.ok.kind,I.ok.rR,I.ok.Ua,I.ok.above,I.ok.inj,I.ok.has,I.ok.X0,hd,I.ok.frames,I.ok.stk,I.ok.exf,I.ok.bs,I.ok.O_,I.ok.jd,I.ok.CQ,I.ok.ly,I.ok.JV⟩,I.os,I.g7,I.base,I.z9,I.cell,I.free,I.jC,I.Ah,I.cA,I.len⟩
section
variable {X:Cx}{k:Nat}{g B:Addr}{fd:FuncData}{ps:List Str}{sp:Sp}{e:Expr}{es:List Expr}{t:TA}{x y n fn cB:Str}{i j l:Nat}{xp p cp ap np yp np2 bp hp pos:Pos}
 {Uu q':Str} {N':Addr} {Uv:List Value} {qz:Bool} {Uw:List Str} {AG:List Value} {Ux:Bool} {AH:Option Bool} {CB:Option Addr} {j0 j1 j2 j3 j5:Option Value} {lU:String}
end
theorem Zg {h:Heap}{a C t d:Addr}{tb:Value}{o:Obj}(e:h.get? a=some (iR C (some d) t tb))(hd:h.get? d=some o):PySem.W.InstAt h a (iR C (some d) t tb) C (some o):=⟨e,rfl,rfl,hd⟩
theorem Zh {od:Option Addr}(I:aL X ah σ H s)(h:H a=some (qy a C od T)):∃t,s.heap.get? a=some (iR C od t (.ref T)):=(I.cA a _ h).1
theorem Lh {b:Bool}{Q:Value->Shared->Prop}(I:aL X ah σ H s)(M:oF X.K C f bm)(ha:H a=some (qy a C (some d) T))(hd:H d=some (ED d fs))(hn:PySem.W.findIn X.K (.ref C) g=some none)(l:fs.lookup g=some v)
  (h:∀u s',aL X ah σ H s'->bI v u->Q u s'):wpAny (model X.prog X.w) A (getAttr (.ref a) g b) Q E s:=by
 obtain⟨t,e⟩:=Zh I ha;obtain⟨mA,ns,r,_⟩:=Ut I hd;obtain⟨oD,Ug,hl⟩:=pD ns;obtain⟨u,hu,ru⟩:=iz.q8 (v:=v) (o:=mA g) (by rw[<-l];exact r g)
 obtain⟨cd,hc,_,qR⟩:=M.cls;have hf:PySem.W.findObj X.K C (some oD) g=some (.value u):=by
  unfold PySem.W.findObj;rw[hc,zbw,hn,zbw];simp[PySem.W.ownOf,qR,hl,hu]
 exact Dm I.nY (Zg e Ug) M hf (v_ ru) (h u _ (I.nZ _) ru)
noncomputable def Zi (K:PySem.W.Frag)(ta:TE)(g:Str):TE:=λσ H Q=>ta σ H λx H1=>∃a C f bm d T fs v,x = .ref a/\H1 a=some (qy a C (some d) T)/\H1 d=some (ED d fs)/\oF K C f bm/\PySem.W.findIn K (.ref C) g=some none/\fs.lookup g=some v/\Q v H1
theorem Li (he:PE X e ta)(hb:autoParam (attributeBase e g X.env (eval e X.env)=eval e X.env) zp_0):PE X (.Attribute e g pos) (Zi X.K ta g):=by
 intro ah s σ H Q I h;refine E1 hb (cH (he ah s σ H _ I h) λu s1 bS=>?_)
 obtain⟨x,H1,I1,rx,a,C,f,bm,d,T,fs,v,ex,ea,ed,M,n,l,q⟩:=bS;subst ex;obtain rfl:u=Value.ref a:=rx
 exact Lh I1 M ea ed n l λu' s2 I2 ru=>⟨v,H1,I2,ru,q⟩
end L2
namespace L2
open PySem PySem.Spec PyProof.Rows
theorem at0 {α:Type}{a:α}{xs:List α}:ig (a::xs) 0=some a:=gq (j:=0) rfl
theorem at1 {α:Type}{a b:α}{xs:List α}:ig (a::b::xs) 1=some b:=gq (j:=1) rfl
theorem at2 {α:Type}{a b c:α}{xs:List α}:ig (a::b::c::xs) 2=some c:=gq (j:=2) rfl
theorem at3 {α:Type}{a b c d:α}{xs:List α}:ig (a::b::c::d::xs) 3=some d:=gq (j:=3) rfl
theorem at4 {α:Type}{a b c d e:α}{xs:List α}:ig (a::b::c::d::e::xs) 4=some e:=gq (j:=4) rfl
theorem at5 {α:Type}{a b c d e f:α}{xs:List α}:ig (a::b::c::d::e::f::xs) 5=some f:=gq (j:=5) rfl
theorem at6 {α:Type}{a b c d e f g:α}{xs:List α}:ig (a::b::c::d::e::f::g::xs) 6=some g:=gq (j:=6) rfl
theorem at7 {α:Type}{a b c d e f g h:α}{xs:List α}:ig (a::b::c::d::e::f::g::h::xs) 7=some h:=gq (j:=7) rfl
theorem j9 (ha:H a=none)(hb:H b=some x):bF H a o b=some x:=by rw[au (eX hb ha)];exact hb
noncomputable def af0:V->V->V->Hp->(Hp->Prop)->Prop:=λo i v H Q=>∃p k,o = .ref p/\i = .int k/\match H p with
 |some (.bM xs)=>(match Aa xs.length k with|some j=>Q (bF H p (.bM (xs.set j v)))|none=>False)
 |_=>False
theorem af1:Yj X af0:=by
 intro ah s σ H o i v ov iv u Q I ro ri rv h;obtain⟨p,k,rfl,rfl,h⟩:=h;cases e:H p with
 |none=>rw[e] at h;exact h.elim
 |some ob =>
  rw[e] at h;cases ob with
  |bM xs =>
   dsimp only at h
   cases e2:Aa xs.length k with
   |none=>rw[e2] at h;exact h.elim
   |some j=>rw[e2] at h;exact KD ah s σ H _ _ v ov iv u Q I ro ri rv ⟨p,xs,k,j,rfl,rfl,e,e2,h⟩
  |_=>exact h.elim
noncomputable abbrev Ev:=St->Hp->Option V
section
variable {X:Cx}{a b c:Expr}{ea eb ec:Ev}{pos Dq:Pos}
variable {cK:List Expr}
end
theorem Lj (hc:X.fQ=true):kQ X (.builtin "sum") (λxs H Q=>∃(l:Addr) (ns:List Int),xs=[.ref l]/\iO X.K H l (ns.map V.int)/\Q (.int ns.sum) H):=by
 intro ah s σ H xs us Q I r h;obtain⟨l,ns,rfl,hl,q⟩:=h;obtain⟨u,rfl,ru⟩:=qo r;cases ru;obtain⟨bg,r2,pl,_⟩:=I.list hl;have hi:=Dd r2;obtain⟨ys,e⟩:=hi.allInts.items;have e2:numsOf bg=ns:=hi.numsOf
 have Uy:=pl.isList;rw[e] at Uy;refine sum_intListG (I.ok.hd hc) Uy λh' tk t' kp=>⟨.int ns.sum,H,I.gH kp,⟨t',?_⟩,q⟩
 have e3:numsOf (intItems ys).toList=ns:=by rw[<-e];exact e2
 rw[nums_intItems] at e3;rw[preSum_eq,zaN (by simp),e3]
inductive DV where
 |fl (v:V)
 |tp (l:List DV)
 |ls (l:List DV)
mutual
noncomputable def gV (K:PySem.W.Frag)(H:Hp):DV->V->Prop
 |.fl w,v=>v=w/\iu w=true
 |.tp l,v=>∃a xs,v = .ref a/\nA K H a xs/\jI K H l xs
 |.ls l,v=>∃a xs,v = .ref a/\iO K H a xs/\jI K H l xs
noncomputable def jI (K:PySem.W.Frag)(H:Hp):List DV->List V->Prop
 |[],xs=>xs=[]
 |d::l,xs=>∃x r,xs=x::r/\gV K H d x/\jI K H l r
end
mutual
noncomputable def DV.wD:DV->Nat
 |.fl _=>0
 |.tp l=>DV.AI l+1
 |.ls l=>DV.AI l+1
noncomputable def DV.AI:List DV->Nat
 |[]=>0
 |d::l=>max (DV.wD d) (DV.AI l)
end
theorem Lk (h:iu w=true):yI w w=true:=by
 cases w with
 |bu=>rfl
 |bl b=>simp[yI]
 |int i=>simp[yI]
 |str z=>simp[yI]
 |_=>exact absurd (show false=true from h) zak
theorem dO (n:Nat):(List.range n).all (λ_=>true)=true:=by simp
mutual
theorem HX (I:aL X ah σ H s):∀(d:DV) (A:Around) (x y:V) (v u:Value),gV X.K H d x->gV X.K H d y->bI x v->bI y u->A.units+d.wD<cLine->SeqAt.EqAt A s v u true
 |.fl w,A,x,y,v,u,hx,hy,rx,ry,_=>by
  unfold gV at hx hy;obtain⟨rfl,fw⟩:=hx;obtain⟨rfl,_⟩:=hy;have h:=KG (A:=A) (s:=s) rx ry fw fw
  rw[Lk fw] at h;exact h
 |.tp l,A,x,y,v,u,hx,hy,rx,ry,hd=>by
  unfold gV at hx hy;obtain⟨a,xs,rfl,sx,dx⟩:=hx;obtain⟨b,ys,rfl,sy,dy⟩:=hy;cases rx;cases ry;obtain⟨bg,r1,p1,_⟩:=I.fH sx;obtain⟨g8,r2,p2,_⟩:=I.fH sy;unfold DV.wD at hd;obtain⟨hl,he⟩:=gf I l A.in1 xs ys bg g8 dx dy r1 r2 (by show A.units+1+_<_;omega)
  by_cases hab:a=b
  ·subst hab;exact zdK _
  ·refine zeA hab ?_
   have h:=SeqAt.RcAt.tuples (A:=A) (e:=λ_=>true) p1 p2 (by omega) λj h1 h2=>he j _ _ (by simpa using zae (by simpa using h1)) (by simpa using zae (by simpa using h2))
   rw[dO,show (bg.toArray.size == g8.toArray.size)=true by simpa using hl] at h
   exact h
 |.ls l,A,x,y,v,u,hx,hy,rx,ry,hd=>by
  unfold gV at hx hy;obtain⟨a,xs,rfl,sx,dx⟩:=hx;obtain⟨b,ys,rfl,sy,dy⟩:=hy;cases rx;cases ry;obtain⟨bg,r1,p1,_⟩:=I.list sx;obtain⟨g8,r2,p2,_⟩:=I.list sy;unfold DV.wD at hd;obtain⟨hl,he⟩:=gf I l A.in1 xs ys bg g8 dx dy r1 r2 (by show A.units+1+_<_;omega)
  by_cases hab:a=b
  ·subst hab;exact zdK _
  ·refine zeA hab ?_
   have h:=SeqAt.RcAt.lists (A:=A) (e:=λ_=>true) p1.isList p2.isList (by simpa using hl) (by omega) λj h1 h2=>he j _ _ (by simpa using zae (by simpa using h1)) (by simpa using zae (by simpa using h2))
   rw[dO] at h;exact h
theorem gf (I:aL X ah σ H s):∀(l:List DV) (A:Around) (xs ys:List V) (us ws:List Value),jI X.K H l xs->jI X.K H l ys->bN xs us->bN ys ws->A.units+DV.AI l<cLine ->
  us.length=ws.length/\∀(j:Nat) (u w:Value),us[j]? = some u->ws[j]? = some w->SeqAt.EqAt A s u w true
 |[],A,xs,ys,us,ws,hx,hy,rx,ry,_=>by
  unfold jI at hx hy;subst hx hy;cases rx;cases ry;exact⟨rfl,λj u w h=>by simp at h⟩
 |d::l,A,xs,ys,us,ws,hx,hy,rx,ry,hd=>by
  unfold jI at hx hy;obtain⟨x,r,rfl,dx,dr⟩:=hx;obtain⟨y,r',rfl,dy,dr'⟩:=hy;cases rx with
  |cons r1 t1 =>
   cases ry with
   |cons r2 t2 =>
    unfold DV.AI at hd;obtain⟨hl,he⟩:=gf I l A r r' _ _ dr dr' t1 t2 (by omega)
    refine⟨by simp[hl],λj u w h1 h2=>?_⟩
    cases j with
    |zero =>
     simp only[zaX,zbD] at h1 h2;subst h1 h2;exact HX I d A x y _ _ dx dy r1 r2 (by omega)
    |succ j =>
     simp only[zaE] at h1 h2;exact he j u w h1 h2
end
noncomputable def af3 (K:PySem.W.Frag)(neg:Bool):R2:=λx y H Q=>∃d:DV,DV.wD d<=50/\(∀w,d ≠ .fl w)/\gV K H d x/\gV K H d y/\Q (.bl (!neg)) H
theorem Zj (hu:X.A.units+100<cLine):jV X (compareOp .Eq) (af3 X.K false):=by
 intro ah s σ H x y v u Q I rx ry h;obtain⟨d,hd,hn,dx,dy,q⟩:=h;have dN:EP X ah σ Q (.bool true) s:=⟨.bl true,H,I,rfl,q⟩
 cases d with
 |fl w=>exact absurd rfl (hn w)
 |tp l =>
  unfold gV at dx dy;obtain⟨a,xs,rfl,sx,dx⟩:=dx;obtain⟨b,ys,rfl,sy,dy⟩:=dy;cases rx;cases ry;obtain⟨bg,r1,p1,_⟩:=I.fH sx;obtain⟨g8,r2,p2,_⟩:=I.fH sy;unfold DV.wD at hd;obtain⟨hl,he⟩:=gf I l X.A.in1 xs ys bg g8 dx dy r1 r2 (by show X.A.units+1+_<_;omega)
  refine SeqAt.eq_tupleAt (e:=λ_=>true) p1 p2 (by omega) (λj h1 h2=>he j _ _ (by simpa using zae (by simpa using h1)) (by simpa using zae (by simpa using h2))) ?_
  rw[dO,show (bg.toArray.size == g8.toArray.size)=true by simpa using hl]
  exact dN
 |ls l =>
  unfold gV at dx dy;obtain⟨a,xs,rfl,sx,dx⟩:=dx;obtain⟨b,ys,rfl,sy,dy⟩:=dy;cases rx;cases ry;obtain⟨bg,r1,p1,_⟩:=I.list sx;obtain⟨g8,r2,p2,_⟩:=I.list sy;unfold DV.wD at hd;obtain⟨hl,he⟩:=gf I l X.A.in1 xs ys bg g8 dx dy r1 r2 (by show X.A.units+1+_<_;omega)
  refine SeqAt.eq_listAt (e:=λ_=>true) p1.isList p2.isList (by simpa using hl) (by omega) (λj h1 h2=>he j _ _ (by simpa using zae (by simpa using h1)) (by simpa using zae (by simpa using h2))) ?_
  rw[dO];exact dN
theorem Zk (hu:X.A.units+100<cLine):jV X (compareOp .NotEq) (af3 X.K true):=by
 intro ah s σ H x y v u Q I rx ry h;obtain⟨d,hd,hn,dx,dy,q⟩:=h;have dN:EP X ah σ Q (.bool false) s:=⟨.bl false,H,I,rfl,q⟩
 cases d with
 |fl w=>exact absurd rfl (hn w)
 |tp l =>
  unfold gV at dx dy;obtain⟨a,xs,rfl,sx,dx⟩:=dx;obtain⟨b,ys,rfl,sy,dy⟩:=dy;cases rx;cases ry;obtain⟨bg,r1,p1,_⟩:=I.fH sx;obtain⟨g8,r2,p2,_⟩:=I.fH sy;unfold DV.wD at hd;obtain⟨hl,he⟩:=gf I l X.A.in1 xs ys bg g8 dx dy r1 r2 (by show X.A.units+1+_<_;omega)
  have h:=SeqAt.RcNeAt.tuples (e:=λ_=>true) p1 p2 (show X.A.units<cLine by omega) λj h1 h2=>he j _ _ (by simpa using zae (by simpa using h1)) (by simpa using zae (by simpa using h2))
  rw[dO,show (bg.toArray.size == g8.toArray.size)=true by simpa using hl] at h
  exact h X.prog X.w _ _ dN
 |ls l =>
  unfold gV at dx dy;obtain⟨a,xs,rfl,sx,dx⟩:=dx;obtain⟨b,ys,rfl,sy,dy⟩:=dy;cases rx;cases ry;obtain⟨bg,r1,p1,_⟩:=I.list sx;obtain⟨g8,r2,p2,_⟩:=I.list sy;unfold DV.wD at hd;obtain⟨hl,he⟩:=gf I l X.A.in1 xs ys bg g8 dx dy r1 r2 (by show X.A.units+1+_<_;omega)
  have h:=SeqAt.RcNeAt.lists (e:=λ_=>true) p1.isList p2.isList (by simpa using hl) (show X.A.units<cLine by omega) λj h1 h2=>he j _ _ (by simpa using zae (by simpa using h1)) (by simpa using zae (by simpa using h2))
  rw[dO] at h;exact h X.prog X.w _ _ dN
end L2
namespace L2
open PySem PySem.Spec PyProof.Rows
end L2
namespace L2
open PySem PySem.Spec PyProof.Rows
end L2
namespace My
open PySem L2
end My
namespace My
open PySem L2
end My
namespace L2
open PySem
theorem Ll (hc:X.fQ=true):kQ X (.builtin "any") (λxs H Q=>∃(l:Addr) (bs:List Bool),xs=[.ref l]/\H l=some (.bM (bs.map V.bl))/\Q (.bl (bs.any id)) H):=by
 intro ah s σ H xs us Q I r h;obtain⟨l,bs,rfl,hl,q⟩:=h;obtain⟨u,rfl,ru⟩:=qo r;cases ru;obtain⟨bg,n,rv,e,_⟩:=I.bM hl;have af4:s.heap.IsList l bg.toArray:=⟨_,e,rfl,n,rfl⟩
 refine call_any_walk (zdp af4 ?_)
 have CD:l≠s.heap.objs.size:=zar (zam e)
 have dm:bg.length=bs.length:=by rw[<-rv.length];simp
 refine⟨s.heap.objs.size,_,_,_,_,_,λi=>bs[i]?.getD true,rfl,Walks.list (by exact I.ok.hd hc) s.heap.objs.size l CD bg.toArray,⟨⟨_,zap _ rfl,rfl,rfl⟩,⟨_,zad _ e,rfl,n,rfl⟩⟩,?_,?_⟩
 ·intro i v s' Q' E' hv hq
  have hv:bg[i]? = some v:=by simpa using hv
  have hi:i<bs.length:=by rw[<-dm];exact (zab.mp hv).1
  obtain⟨u,hu,ru⟩:=rv.get (i:=i) (x:=V.bl bs[i]) (by simp[hi])
  rw[hv] at hu;have e1:v=u:=zav hu
  subst e1;cases (show v=Value.bool bs[i] from ru)
  refine zba ?_
  have e2:bs[i]?.getD true=bs[i]:=by simp[hi]
  have hq:Q' (bs[i]?.getD true) s':=hq
  rw[e2] at hq;exact hq
 ·intro h' tk hk
  refine⟨.bl (bs.any id),H,I.gH λb o e'=>hk b o (by simp;exact zar (zam e')) (zad _ e'),?_,q⟩
  show Value.bool _=Value.bool _
  congr 1
  rw[zan,dm];rw[zbh,zcI,zcI];constructor
  ·rintro⟨i,hi,hb⟩
   have hi:=zdU.mp hi;rw[zae hi] at hb;exact⟨_,zcm hi,hb⟩
  ·rintro⟨b,hb,hbt⟩
   obtain⟨i,hi,e⟩:=List.mem_iff_getElem.mp hb;refine⟨i,zdU.mpr hi,?_⟩
   rw[zae hi,zcJ,e];exact hbt
section
variable {α:Type}{H H':Hp}{o:α -> HO}{as:List Addr}{xs:List α}
end
end L2
namespace L2
open PySem PySem.Spec PyProof.Rows
theorem AJ (hd:(d == sysModules)=false)(ho:s.heap.get? d=some o)(hc:o.ExactDict)(AK:o.data = .dict es ep)
  (hQ:Q (.ref s.heap.objs.size) { s with heap:=s.heap.push { cls:=.type "dict_keyiterator",data:=.fields #[.ref d,.int 0 0,.int es.size 0,.int ep 0]} }):wpAny (model prog w) A (pyIter (.ref d)) Q E s:=by
 have hT:s.TypeIs (.ref d) "dict" := ⟨o,ho,hc.1⟩
 refine wpAny_pyIter_slot hT F.slot_dict_iter (zbS F.slot_dict_iter hT F.entry_dict_iter ?_ (F.args_dict_iter_1 _))
 unfold Builtin.«dict.__iter__» Builtin.Dict.dictSlotNone
 refine zaa (zaa (wpAny_notOrdered_dict hT (zag (?_:wpAny _ _ (Builtin.Dict.showsAll d >>= _) _ _ s))))
 unfold Builtin.Dict.showsAll;rw[if_neg (by rw[hd];exact zak)]
 refine zaa (zag (zaa (zds ho AK (zaa (zdM ho AK (zaa (zaW (zag ⟨_,rfl,"dict_keyiterator",_,⟨_,zap _ rfl,rfl⟩,zbn.lookup,?_⟩)))))))) 
 simpa[rawInt] using hQ
theorem Ln (CF:s.heap.IsKeyIter it d i es.size ep)(vD:s.heap.get? d=some o)(AK:o.data = .dict es ep)(jc:i<es.size)
  (hQ:∀h',h'.IsKeyIter it d (i+1) es.size ep->Heap.SameBut it s.heap h'->Q (some es[i].key) {s with heap:=h' }):wpAny (model prog w) A (pyNext (.ref it)) Q E s:=by
 obtain⟨oi,hoi,hci,Zl⟩:=id CF;unfold pyNext;refine zaa (wpAny_attempt (zbF (name:=Str.ofString "__next__") CF.typeIs zbn
  (zbS zbn CF.typeIs zcU (zaa (zag (zaa (zaa ?_)))) (zcQ _))))
 first|refine zaa (zbE CF.typeIs (zag ?_))|refine zaa (dF CF.typeIs (zag ?_))
 refine zaa (wpAny_fieldsOf hoi Zl ?_)
 simp only[(by decide:Builtin.Dict_items.ownsTuple "dict_keyiterator"=false),zcd,if_false]
 show wpAny _ _ (if (Value.ref d == Value.none)=true then _ else _) _ _ s
 rw[if_neg (show ¬ ((Value.ref d == Value.none)=true) from zak)];refine zaa (zag (zaa (zds vD AK ?_)))
 rw[if_neg (by simp)]
 refine zaa (zag (zaa (zdM vD AK ?_)))
 rw[if_neg (by simp)]
 refine zag ?_
 simp only[show ¬ ((i:Int)<0) from by omega,if_false,zbo,zdv jc]
 refine zaa ?_
 first|refine zaa (zbE CF.typeIs (zag ?_))|refine zaa (dF CF.typeIs (zag ?_))
 refine zaa (wpAny_isOneOf_keyiter CF.typeIs (?_:wpAny _ _ (setField (.ref it) 1 (rawInt ((i:Int)+1)) >>= _) _ _ s))
 refine zaa (zbH hoi Zl (by simp) ?_)
 have af5:(s.heap.update it (Obj.mapFields (·.setIfInBounds 1 (rawInt ((i:Int)+1))))).IsKeyIter it d (i+1) es.size ep:=
  ⟨_,zaV _ hoi (zch (zbk Zl _)),(Obj.cls_mapFields ..).trans hci,by rw[zbk Zl];simp[rawInt]⟩
 refine zaa (zbu (zaa (wpAny_isOneOf_keyiter (s:={s with heap:=s.heap.update it (Obj.mapFields (·.setIfInBounds 1 (rawInt ((i:Int)+1))))}) af5.typeIs (?_:wpAny _ _ (pure es[i].key) _ _ _))))
 exact zag (zag ⟨_,rfl,zag (hQ _ af5 (zbV ..))⟩)
theorem Lo (hh:A.handled=none)(CF:s.heap.IsKeyIter it d i es.size ep)(vD:s.heap.get? d=some o)(AK:o.data = .dict es ep)(hge:es.size<=i)
  (hQ:∀h',Heap.ExtBut it s.heap h'->Q none {s with heap:=h' }):wpAny (model prog w) A (pyNext (.ref it)) Q E s:=by
 obtain⟨oi,hoi,hci,Zl⟩:=id CF;unfold pyNext;refine zaa (wpAny_attempt (zbF (name:=Str.ofString "__next__") CF.typeIs zbn
  (zbS zbn CF.typeIs zcU (zaa (zag (zaa (zaa ?_)))) (zcQ _))))
 first|refine zaa (zbE CF.typeIs (zag ?_))|refine zaa (dF CF.typeIs (zag ?_))
 refine zaa (wpAny_fieldsOf hoi Zl ?_)
 simp only[(by decide:Builtin.Dict_items.ownsTuple "dict_keyiterator"=false),zcd,if_false]
 show wpAny _ _ (if (Value.ref d == Value.none)=true then _ else _) _ _ s
 rw[if_neg (show ¬ ((Value.ref d == Value.none)=true) from zak)];refine zaa (zag (zaa (zds vD AK ?_)))
 rw[if_neg (by simp)]
 refine zaa (zag (zaa (zdM vD AK ?_)))
 rw[if_neg (by simp)]
 refine zag ?_
 simp only[show ¬ ((i:Int)<0) from by omega,if_false,zbo,Array.getElem?_eq_none hge]
 refine zaa ?_
 first|refine zaa (zbE CF.typeIs (zag ?_))|refine zaa (dF CF.typeIs (zag ?_))
 show wpAny _ _ (setField (.ref it) 0 .none >>= _) _ _ s
 refine zaa (zbH hoi Zl (by simp) (?_:wpAny _ _ (newExc (.type "StopIteration") [] >>= _) _ _ _))
 refine zaa ?_
 simp only[newExc,newTuple];refine zaa (zaW ?_ (by size_fits))
 refine zaa (m:=firstArgMember _ _) (wpAny_of_eq (a:=Value.none) (by first|rfl | (simp only[firstArgMember];rfl)) ?_)
 refine zaW ?_ (by size_fits)
 simp only[raiseNew];refine zaa (wpAny_handled ?_)
 rw[show A.in1.handled=none from hh];refine zaa (zag (wpAny_throw ?_))
 refine zaa (wpAny_isInstance (T:= "StopIteration") (b:=true) ⟨_,zap _ rfl,rfl⟩ isSubtype_stop ?_)
 exact zag (hQ _ (((zbV ..).extBut.push _).push _))
noncomputable def Itd (a:Addr)(o:Obj)(u:HO)(ks:List V):It:=⟨λi H=>H a=some (.qY o u)/\i<ks.length,λi H x H'=>H'=H/\ks[i]? = some x,λi H=>H a=some (.qY o u)/\ks.length<=i⟩
theorem wF {K:W.Frag}(a it:Addr)(hc:o.ExactDict)(hd:o.data = .dict es ep)(hn:es.size=ks.length)(hk:∀i (h:i<es.size) x,ks[i]? = some x->bI x es[i].key):
  CT P w K tg (Itd a o u ks) [it] it (λi h=>h.IsKeyIter it a i es.size ep) where
 mem:=by simp
 lG:=λi h st b hb=>by
  have e:b=it:=by simpa using hb
  subst e;obtain⟨o,e,c,d⟩:=st;exact⟨o,e,λv z=>by rw[d] at z;cases z⟩
 keep:=λi h h' st k=>st.at λo e=>k it (by simp) o e
 item:=by
  intro X hP hw hK hcm i ah s σ H E I hf st hg;subst hP hw hK;obtain⟨ha,hi⟩:=hg;obtain⟨ho,_⟩:=(show cJ X.prog X.w H s.heap a (.qY o u) from I.cA a _ ha)
  obtain⟨f0,f1,f2,f3,f4,f5⟩:=hf it (by simp)
  have hi2:i<es.size:=by omega
  refine Ln st ho hd hi2 λh' v8 sb=>?_
  have I1:aL X ah σ H {s with heap:=h' }:=I.iN (t':=s.toks) (λb o hb e=>(sb.2 b hb).trans e) f0 f1 f3 f4 f5
  obtain⟨oi,e,c,d⟩:=id v8;exact⟨_,rfl,Am (s:={s with heap:=h' }) e c d (by decide) ⟨ks[i],H,I1,hk i hi2 _ (zae hi),⟨rfl,zae hi⟩,v8,λb hb=>(hf b hb).1⟩⟩
 done:=by
  intro X hP hw hK hcm i ah s σ H E I hf st hg;subst hP hw hK;obtain⟨ha,hi⟩:=hg;obtain⟨ho,_⟩:=(show cJ X.prog X.w H s.heap a (.qY o u) from I.cA a _ ha)
  obtain⟨f0,f1,f2,f3,f4,f5⟩:=hf it (by simp)
  exact Lo (I.ok.hd hcm) st ho hd (by omega) λh' eb=>⟨rfl,I.iN (t':=s.toks) (λb o hb e=>eb b o hb e) f0 f1 f3 f4 f5⟩
 self:=λ_ _ _ _ _ st h=>wpAny_pyIter_keyiter st h
theorem QN (h:lH k v=true):bI (kV k) v:=by
 rcases cW h with⟨i,t,rfl,rfl⟩|⟨x,t,rfl,rfl⟩
 ·exact⟨t,rfl⟩
 ·exact⟨t,rfl⟩
theorem Paired.af6 {α β γ:Type}{F:α -> β -> Prop}{G:α -> γ -> Prop}{f:β -> γ}(h:∀a b,F a b->G a (f b)):∀{l:List α} {m:List β},Paired F l m->Paired G l (m.map f)
 |_,_,.nil=>.nil
 |_,_,.cons r t=>.cons (h _ _ r) (Paired.af6 h t)
noncomputable def Lp (H:Hp)(u:HO)(ks:List V):Prop:=match u with
 |.dK aP=>ks=aP.map λp=>kV p.1
 |.dT aP=>Paired (λ(p:List dJ×V) (x:V)=>∃b,x = .ref b/\H b=some (.gS (p.1.map kV))) aP ks
 |_=>False
noncomputable def Fe:HO->Prop|.dK _=>True|.dT _=>True|_=>False
theorem Ff {P:Program}{w:World}{H:Hp}(hu:Fe u)(x:cJ P w H h a u):(a == sysModules)=false/\∃o ks es ep,h.get? a=some o/\Lp H u ks/\o.ExactDict/\o.data = .dict es ep/\es.size=ks.length/\∀i (h:i<es.size) x,ks[i]? = some x->bI x es[i].key:=by
 cases u with
 |dK aP =>
  obtain⟨_,hs,vs,kv,o,es,ep,ho,hc,hd,hk,hp,hn⟩:=x;have hl:=hp.length;have kl:=kv.length;have kk:=kv.pq;refine⟨hs,o,_,es,ep,ho,rfl,hc,hd,by rw[zac,kl,<-hl];simp,λi hi y hy=>?_⟩
  rw[zaq] at hy;have hiv:i<vs.length:=by rw[<-hl];simpa using hi
  have e1:(aP.map (·.1))[i]? = (vs.map (·.1))[i]?:= by rw[kk]
  rw[zaq,zaq,zae hiv] at e1;rw[zae (by omega)] at hy e1
  simp only[zct,zbD] at hy e1
  have:=(hp.get? (i:=i) (e:=es[i]) (k:=vs[i].1) (v:=vs[i].2) (by simp[hi]) (by rw[zae hiv])).1
  rw[<-hy,e1];exact QN this
 |dT aP =>
  obtain⟨_,hs,xs,pr,o,es,ep,ho,hc,hd,he,hn⟩:=x;have hl:es.size=xs.length:=by have:=congrArg List.length he;simpa using this
  refine⟨hs,o,xs.map λq=>.ref q.2.1,es,ep,ho,?_,hc,hd,by rw[zac,hl],λi hi y hy=>?_⟩
  ·show Paired _ aP (xs.map λq=>V.ref q.2.1)
   exact Paired.af6 (λp q h=>⟨_,rfl,h.2.1⟩) pr
  ·rw[zaq,zae (by omega)] at hy
   simp only[zct,zbD] at hy;have e1:es[i]=entryOfKey (tupleKind (bW P w)) (xs[i]'(by omega)):=by
    have:=entry_at he i
    rw[zdv hi,zae (by omega)] at this
    simpa using this
   rw[<-hy,e1];rfl
 |_=>exact hu.elim
noncomputable def alp (tl:TE):TI:=λσ H R=>tl σ H λx H1=>∃a u,x = .ref a/\Fe u/\((H1 a=some u/\∀o ks,Lp H1 u ks->R (Itd a o u ks) (bF H1 a (.qY o u)))\/∃o,H1 a=some (.qY o u)/\∀ks,Lp H1 u ks->R (Itd a o u ks) H1)
theorem QO {l:Expr}{tl:TE}(hl:PE X l tl):PI X tg l (alp tl):=by
 intro ah s σ H R I h;refine cH (hl ah s σ H _ I h) λv s1 bS=>?_
 obtain⟨x,H1,I1,r1,q1⟩:=bS;obtain⟨a,u,e,hu,q⟩:=q1;subst e;cases r1;rcases q with⟨ha,q⟩|⟨o,ha,q⟩
 ·obtain⟨hs,o,ks,es,ep,ho,hk,hc,hd,hn,hr⟩:=Ff hu (I1.cA a u ha)
  refine AJ hs ho hc hd ?_
  have mu:Mut (H1 a):=by rw[ha];cases u<;>first|exact hu.elim|trivial
  have I2:aL X ah σ (bF H1 a (.qY o u)) { s1 with heap:=s1.heap.push { cls:=.type "dict_keyiterator",data:=.fields #[.ref a,.int 0 0,.int es.size 0,.int ep 0]} }:=I1.jf (t':=s1.toks) (x:=a) (e:=a) mu (.inl rfl) (λb v _ e=>zad _ e) ⟨o,zad _ ho⟩
   ⟨zad _ ho,(I1.cA a u ha).pA (λb v _ e=>zad _ e) (λb hb=>by rw[au (λz=>by subst z;rw[ha] at hb;cases hb;exact hu.elim)];exact hb) λb xs hb=>by rw[au (λz=>by subst z;rw[ha] at hb;cases hb;exact hu.elim)];exact hb⟩
  refine⟨s1.heap.objs.size,[s1.heap.objs.size],_,_,_,rfl,I2,wF a _ hc hd hn hr,⟨_,zap _ rfl,rfl,rfl⟩,λb hb=>?_,q o ks hk⟩
  have e:b=s1.heap.objs.size:=by simpa using hb
  subst e;exact I1.Al (zah _) (by rw[au (λz=>absurd (I1.cA.lt ha) (by rw[<-z];exact zaP _))];exact I1.cA.fresh (zah _))
 ·have hob:=(show cJ X.prog X.w H1 s1.heap a (.qY o u) from I1.cA a _ ha)
  obtain⟨hs,o',ks,es,ep,ho,hk,hc,hd,hn,hr⟩:=Ff hu hob.2;have eo:o'=o:=by have:=hob.1;rw[ho] at this;exact zav this
  subst eo;refine AJ hs ho hc hd ?_
  refine⟨s1.heap.objs.size,[s1.heap.objs.size],_,_,H1,rfl,I1.gH (t':=s1.toks) λb o e=>zad _ e,wF a _ hc hd hn hr,⟨_,zap _ rfl,rfl,rfl⟩,λb hb=>?_,q ks hk⟩
  have e:b=s1.heap.objs.size:=by simpa using hb
  subst e;exact I1.Al (zah _) (I1.cA.fresh (zah _))
section
variable {X:Cx}{o:Expr}{lo:Option Expr}{to:TE}{tl:TO}{p2 pos:Pos}
end
theorem HY:typeLookup (.type "list") "keys"=pure none:=am_miss_of_fast (by decide +kernel)
theorem HZ (hx:s.heap.get? a=some { cls:=.type "list",data:=.seq xs k})(hA:A.handled=none)
  (h:∀h' tk,(∀b o,s.heap.get? b=some o->h'.get? b=some o)->Q none {s with heap:=h',toks:=tk}):wpAny (model prog w) A (getAttr? (.ref a) "keys") Q E s:=by
 obtain⟨hp,g,d,tk,os⟩:=s;have hT:∀tk',(⟨hp,g,d,tk',os⟩:Shared).TypeIs (.ref a) "list" := λ_=>⟨_,hx,rfl⟩
 have f1:=sub_AttributeError;have f3:=zcy.lookup;have f4:=zcy.bind (.ref a)
 have f5:=am_list_getattr_none;unfold getAttr? getAttrBy? getAttrBy
 repeat (any_goals (first|assumption|exact hT _ | ((with_reducible show wpAny _ _ (call (Value.builtin "list.__getattribute__") _ _) _ _ _);refine call_meets zcy (hT _) am_entry_list_getattribute (F.args_list_getattribute_2 _ _) (meets_getattribute_miss_list a xs k #[] _ _ HY (by decide +kernel)) ⟨hx,hA,λh' tk' e Up=>?_⟩)|wp_step))
 ·obtain⟨t',u',he⟩:=Up.there
  show wpAny _ _ (getattributeRaised _ _ _ _ _ _ _) _ _ _
  unfold getattributeRaised;repeat (any_goals (first|assumption|wp_step))
  exact h _ _ Up.keeps
theorem wG:entryFor table "dict.update.loop"=some Builtin.«dict.update.loop»:= entryFor_of_tree (by kernel_rfl)
theorem mH:plainId "dict.update.loop"=true:=by decide +kernel
noncomputable def sI (kv:Nat->dJ×Value):Nat->List (dJ×Value)
 |0=>[]
 |i+1=>stored (sI kv i) (kv i).1 (kv i).2
theorem Ds (l:List (dJ×Value))(k:dJ)(v:Value):(stored l k v).length<=l.length+1:=by
 unfold stored;split
 ·rw[zac];omega
 ·simp
theorem yQ (kv:Nat->dJ×Value):∀i,(sI kv i).length<=i
 |0=>zah _
 |i+1=>zai (Ds _ _ _) (Nat.succ_le_succ (yQ kv i))
section
variable {prog:Program}{w:World}{A:Around}{R:Result->Shared->Prop}{I:Addr}{fp wr:List Addr}{G:Array GenState->Array GenState->Prop}{n:Nat}{P:Nat->Value->Prop}{St:Nat->Shared->Prop}
theorem DictOf.gH {h h':Heap}(q:h.DictOf (bW prog w) S l)(k:∀o,h.get? S=some o->h'.get? S=some o):h'.DictOf (bW prog w) S l:=by
 obtain⟨o,es,ep,ho,cK⟩:=q;exact⟨o,es,ep,k o ho,cK⟩
noncomputable def pI (h:Heap)(a:Addr)(k x:Value):Prop:=∃o m,h.get? a=some o/\o.cls = .type "tuple" /\ o.data = .seq #[k,x] m
theorem H_ (W:WalksS prog w A.in1 I fp wr G n P St)(S:Addr)(hSf:S∉fp)(ad:Nat->Addr)(kk:Nat->Value)(kv:Nat->dJ×Value)(Zm:∀i v,P i v->v = .ref (ad i))(Kc:∀i,i<n->lH (kv i).1 (kk i)=true)(hn:n<=1000)(had:∀i,i<n->ad i∉S::wr)(j:Nat):
  ∀(i:Nat) (t:Tok) (s:Shared),n=i+j->St i s->s.heap.DictOf (bW prog w) S (sI kv i)->(∀m,m<n->pI s.heap (ad m) (kk m) (kv m).2) ->
   (∀s',Moved (S::wr) G s s'->s'.heap.DictOf (bW prog w) S (sI kv n)->R (.ok (.ret .none)) s')->codeAny (model prog w) A (.builtin "dict.update.loop" ⟨[.ref S,.ref I,.int i t,.none],[]⟩) R s:=by
 have hSw:S∉wr:=λh=>hSf (W.sub _ h)
 induction j with
 |zero =>
  intro i t s hi qm hS hp hR;subst hi;refine codeAny_builtin wG ?_
  rw[Around.under_plainId mH _];refine zaa (W.done s _ _ qm λs' hm=>?_)
  show wpAny _ _ (Builtin.Dict.addKeywords S [] >>= _) _ _ _
  exact zaa (zag (zag (hR s' (hm.mono λb hb=>zaM _ hb) (DictOf.gH hS λo ho=>hm.heap S o hSw ho))))
 |succ j ih =>
  intro i t s hi qm hS hp hR;refine codeAny_builtin wG ?_
  rw[Around.under_plainId mH _];refine zaa (W.item i s _ _ (by omega) qm λv s' hP alq hm=>?_)
  have hv:=Zm i v hP;subst hv;have hS':s'.heap.DictOf (bW prog w) S (sI kv i):=DictOf.gH hS λo ho=>hm.heap S o hSw ho
  have hp':∀m,m<n->pI s'.heap (ad m) (kk m) (kv m).2:=λm Zn=>by
   obtain⟨o,q,ho,cK⟩:=hp m Zn;exact⟨o,q,hm.heap _ o (λz=>had m Zn (zaM _ z)) ho,cK⟩
  obtain⟨o,q,ho,hc,hd⟩:=hp' i (by omega)
  have hT:s'.TypeIs (.ref (ad i)) "tuple" := ⟨o,ho,hc⟩
  refine zaa (zbu ?_)
  refine zaa (wpAny_tryCatch ?_)
  unfold Builtin.Dict.pairItems;refine zaa (wpAny_typeOf hT ?_)
  rw[if_pos (by decide)]
  unfold seqItems?
  refine zaa (zaa (wpAny_load ho ?_))
  rw[hd];refine zag (zag ?_)
  show wpAny _ _ (holding [kk i,(kv i).2] (dictSet S (kk i) (kv i).2)) _ _ _
  have hle:=yQ kv i;refine zbu (wpAny_dictSet_pairs (Kc i (by omega)) hS' (λh' CG Ur=>?_) (zai (by omega:(sI kv i).length<=1000) (by decide)))
  refine zag ⟨plainId_quiet mH _,ih (i+1) _ _ (by omega) (W.frame _ s' _ _ alq (zbc _) λb hb o e=>?_) CG (λm Zn=>?_) λs'' als alu=>?_⟩
  ·rw[Ur.2 b (λz:b=S=>hSf (by rw[<-z];exact hb))];exact e
  ·obtain⟨o2,q2,ho2,cK⟩:=hp' m Zn
   exact⟨o2,q2,by rw[Ur.2 _ (λz=>had m Zn (by rw[z];exact zbK))];exact ho2,cK⟩
  ·refine hR s'' (Moved.trans W.gtrans ((hm.mono λb hb=>zaM _ hb).then_heap (zbc _) λb o hb e=>?_) als) alu
   rw[Ur.2 b (λz:b=S=>hb (by rw[z];exact zbK))];exact e
end
section
variable {prog:Program}{w:World}{A:Around}{E:Value->Shared->Prop}{s:Shared}
theorem qT {l:Addr}{ad:Nat->Addr}{kk:Nat->Value}(hh:A.handled=none)(hol:s.heap.get? l=some { cls:=.type "list",data:=.seq items nl})
  (Zm:∀i v,items[i]? = some v->v=Value.ref (ad i)) (Kc:∀i,i<items.size->lH (kv i).1 (kk i)=true) (hn:items.size<=1000) (hp:∀m,m<items.size->pI s.heap (ad m) (kk m) (kv m).2)
  (h:∀(h':Heap) (tk:Nat),h'.DictOf (bW prog w) s.heap.objs.size (sI kv items.size)->(∀b o,s.heap.get? b=some o->h'.get? b=some o)->Q (.ref s.heap.objs.size) {s with heap:=h',toks:=tk}):
  wpAny (model prog w) A (call (.type "dict") [.ref l]) Q E s:=by
 refine callType_codes (Q₁:= λlG cF=>lG = .ref s.heap.objs.size/\cF = { s with heap:=s.heap.push { cls:=.type "dict",data:=.dict #[]} }) F.kt_called_dict (F.kt_typeCall_dict_1 _) F.entry_dict_init (kt_code_dict_new _ ⟨rfl,rfl⟩) ?_
 rintro lG cF ⟨rfl,rfl⟩
 have Zo:(s.heap.push { cls:=.type "dict",data:=.dict #[]}).DictOf (bW prog w) s.heap.objs.size []:=Heap.DictOf.new s.heap
 have Zp:(s.heap.push { cls:=.type "dict",data:=.dict #[]}).get? l=some { cls:=.type "list",data:=.seq items nl}:=zad _ hol
 have hlS:l<s.heap.objs.size:=zam hol
 refine⟨Zo.typeIs,F.args_dict_init_2 _ _,?_⟩
 unfold Builtin.«dict.__init__»
 refine zaa ?_
 unfold Builtin.Dict.selfAndRest;refine zaa (wpAny_notOrdered_dict Zo.typeIs (?_:wpAny _ _ (pure (s.heap.objs.size,[Value.ref l])) _ _ _))
 refine zag ?_
 show wpAny _ _ (Builtin.Dict.updateFrom "dict.__init__" s.heap.objs.size (.ref l) [] .none) _ _ _
 unfold Builtin.Dict.updateFrom;refine zaa (wpAny_typeOf (T:= "list") ⟨_,Zp,rfl⟩ ?_)
 rw[if_pos (by decide)]
 refine zaa (HZ Zp (by simp[hh]) λh1 tk1 hk1=>?_)
 simp only[zeB,if_true];refine zaa (wpAny_rule ?_)
 have alv:h1.get? l=some { cls:=.type "list",data:=.seq items nl}:=hk1 _ _ Zp
 have Uz:h1.DictOf (bW prog w) s.heap.objs.size []:=DictOf.gH Zo λo ho=>hk1 _ _ ho
 have QS:h1.IsList l items:=⟨_,alv,rfl,nl,rfl⟩
 have QT:s.heap.objs.size<h1.objs.size:=by
  obtain⟨o,_,_,ho,_⟩:=Uz;exact zam ho
 refine zaa (zdp (s:={s with heap:=h1,toks:=tk1}) QS ?_)
 refine zag ?_
 refine⟨plainId_quiet mH _,?_⟩
 have alw:l≠h1.objs.size:=zar (zdB hlS QT)
 have hSf:s.heap.objs.size∉[h1.objs.size,l]:=by
  simp only[zao,zbe,or_false,not_or];exact⟨zar QT,zcg hlS⟩
 have hp1:∀m,m<items.size->pI h1 (ad m) (kk m) (kv m).2:=λm hm=>by
  obtain⟨o,q,ho,cK⟩:=hp m hm;exact⟨o,q,hk1 _ _ (zad _ ho),cK⟩
 refine H_ ((Walks.list (by simp[hh]) _ l alw items).toS) s.heap.objs.size hSf ad kk kv (λi v hv=>Zm i v hv) Kc hn (λi hi=>?_) items.size 0 _ _ (by omega)
  ⟨⟨_,zap _ rfl,rfl,rfl⟩,(QS.push _)⟩ (DictOf.gH Uz λo ho=>zad _ ho) (λm hm=>?_) ?_
 ·obtain⟨o,q,ho,_⟩:=hp i hi
  have:=zam ho
  simp only[zao,zbe,or_false,not_or];exact⟨zar this,zar (zdB this QT)⟩
 ·obtain⟨o,q,ho,cK⟩:=hp1 m hm
  exact⟨o,q,zad _ ho,cK⟩
 ·intro s' hm hS'
  obtain⟨h',g',d',tk',os'⟩:=s';have eg:g'=s.gens:=hm.gens
  have ed:d'=s.drawn:=hm.drawn
  have eo:os'=s.os:=hm.os
  subst eg;subst ed;subst eo;refine⟨rfl,h h' tk' hS' λb o e=>?_⟩
  have Zq:=zam e;exact hm.heap b o (by simp only[zao,zbe,or_false,not_or];exact⟨zar Zq,zar (zdB Zq QT)⟩) (zad _ (hk1 _ _ (zad _ e)))
end
inductive Tr where
 |bu|bl (b:Bool)|int (i:Int)|str (x:Str)|tp (l:List Tr)|ls (l:List Tr)|kt (l:List Tr)|kl (l:List Tr)|hd (n:Nat)
inductive Ce where
 |sJ|bM (l:List Tr)|jt (l:List (dJ×Tr))|d_ (c:Str) (fs:List (Str×Tr))|sL (c:Str) (fs:List (Str×Tr))|Pb (l:List (List dJ×Tr))|vM (l:List (dJ×Tr))|Dt (l:List (List dJ×Tr))
noncomputable def Ce.fz:Ce->Bool|.sJ=>true|.vM _=>true|.Dt _=>true|_=>false
noncomputable abbrev Cs:=List Ce
structure Wd where
 K:W.Frag
 n:Nat
 ρ:Nat->Addr
 F:Hp
 hid:Hp
structure Wd.le (w w':Wd):Prop where
 K:w'.K=w.K
 n:w.n<=w'.n
 r:∀i,i<w.n->w'.ρ i=w.ρ i
 F:∀b o,w.F b=some o->w'.F b=some o
 hid:w'.hid=w.hid
theorem Wd.le.refl (w:Wd):w.le w:=⟨rfl,zah _,λ_ _=>rfl,λ_ _ h=>h,rfl⟩
theorem Wd.le.trans {a b c:Wd}(h:a.le b)(g:b.le c):a.le c:=
 ⟨g.K.trans h.K,zai h.n g.n,λi hi=>(g.r i (zal hi h.n)).trans (h.r i hi),λb o e=>g.F b o (h.F b o e),g.hid.trans h.hid⟩
mutual
noncomputable def RT (w:Wd):Tr->V->Prop
 |.bu,v=>v = .bu
 |.bl b,v=>v = .bl b
 |.int i,v=>v = .int i
 |.str x,v=>v = .str x
 |.tp l,v=>∃a xs,v = .ref a/\w.F a=some (.gS xs)/\bK w l xs
 |.ls l,v=>∃a xs,v = .ref a/\w.F a=some (.bM xs)/\bK w l xs
 |.kt l,v=>∃a xs,v = .ref a/\nA w.K w.F a xs/\bK w l xs
 |.kl l,v=>∃a xs,v = .ref a/\iO w.K w.F a xs/\bK w l xs
 |.hd n,v=>n<w.n/\v = .ref (w.ρ n)
noncomputable def bK (w:Wd):List Tr->List V->Prop
 |[],xs=>xs=[]
 |d::l,xs=>∃x r,xs=x::r/\RT w d x/\bK w l r
end
theorem Rd.mono {H H':Hp}(h:∀b o,H b=some o->H' b=some o){a:Addr}{u:HO}(r:Rd H a u):Rd H' a u:=by
 rcases r with r|⟨o,r⟩
 ·exact .inl (h _ _ r)
 ·exact .inr ⟨o,h _ _ r⟩
theorem iO.mono {K:W.Frag}{H H':Hp}(h:∀b o,H b=some o->H' b=some o){a:Addr}{xs:List V}(r:iO K H a xs):iO K H' a xs:=r.imp (Rd.mono h) id
theorem nA.mono {K:W.Frag}{H H':Hp}(h:∀b o,H b=some o->H' b=some o){a:Addr}{xs:List V}(r:nA K H a xs):nA K H' a xs:=r.imp (Rd.mono h) id
mutual
theorem RT.mono {w w':Wd}(le:w.le w'):∀(t:Tr) (v:V),RT w t v->RT w' t v
 |.bu,v,h=>by unfold RT at h ⊢;exact h
 |.bl b,v,h=>by unfold RT at h ⊢;exact h
 |.int b,v,h=>by unfold RT at h ⊢;exact h
 |.str b,v,h=>by unfold RT at h ⊢;exact h
 |.tp l,v,h=>by
  unfold RT at h ⊢
  obtain⟨a,xs,e,s,r⟩:=h;exact⟨a,xs,e,le.F _ _ s,bK.mono le l xs r⟩
 |.ls l,v,h=>by
  unfold RT at h ⊢
  obtain⟨a,xs,e,s,r⟩:=h;exact⟨a,xs,e,le.F _ _ s,bK.mono le l xs r⟩
 |.kt l,v,h=>by
  unfold RT at h ⊢
  obtain⟨a,xs,e,s,r⟩:=h;exact⟨a,xs,e,by rw[le.K];exact s.mono le.F,bK.mono le l xs r⟩
 |.kl l,v,h=>by
  unfold RT at h ⊢
  obtain⟨a,xs,e,s,r⟩:=h;exact⟨a,xs,e,by rw[le.K];exact s.mono le.F,bK.mono le l xs r⟩
 |.hd n,v,h=>by
  unfold RT at h ⊢
  exact⟨zal h.1 le.n,by rw[le.r n h.1];exact h.2⟩
theorem bK.mono {w w':Wd}(le:w.le w'):∀(l:List Tr) (xs:List V),bK w l xs->bK w' l xs
 |[],xs,h=>by unfold bK at h ⊢;exact h
 |d::l,xs,h=>by
  unfold bK at h ⊢
  obtain⟨x,r,e,h1,h2⟩:=h;exact⟨x,r,e,RT.mono le d x h1,bK.mono le l r h2⟩
end
mutual
theorem RT.bB {w:Wd}(hid:Hp):∀(t:Tr) (v:V),RT w t v->RT {w with hid:=hid} t v
 |.bu,v,h=>by unfold RT at h ⊢;exact h
 |.bl b,v,h=>by unfold RT at h ⊢;exact h
 |.int b,v,h=>by unfold RT at h ⊢;exact h
 |.str b,v,h=>by unfold RT at h ⊢;exact h
 |.tp l,v,h=>by unfold RT at h ⊢;obtain⟨a,xs,e,s,r⟩:=h;exact⟨a,xs,e,s,bK.bB hid l xs r⟩
 |.ls l,v,h=>by unfold RT at h ⊢;obtain⟨a,xs,e,s,r⟩:=h;exact⟨a,xs,e,s,bK.bB hid l xs r⟩
 |.kt l,v,h=>by unfold RT at h ⊢;obtain⟨a,xs,e,s,r⟩:=h;exact⟨a,xs,e,s,bK.bB hid l xs r⟩
 |.kl l,v,h=>by unfold RT at h ⊢;obtain⟨a,xs,e,s,r⟩:=h;exact⟨a,xs,e,s,bK.bB hid l xs r⟩
 |.hd n,v,h=>by unfold RT at h ⊢;exact h
theorem bK.bB {w:Wd}(hid:Hp):∀(l:List Tr) (xs:List V),bK w l xs->bK {w with hid:=hid} l xs
 |[],xs,h=>by unfold bK at h ⊢;exact h
 |d::l,xs,h=>by
  unfold bK at h ⊢
  obtain⟨x,r,e,h1,h2⟩:=h;exact⟨x,r,e,RT.bB hid d x h1,bK.bB hid l r h2⟩
end
theorem bK.nil {w:Wd}:bK w [] []:=by unfold bK;rfl
theorem bK.cons {w:Wd}{t:Tr}{l:List Tr}{v:V}{xs:List V}(h:RT w t v)(r:bK w l xs):bK w (t::l) (v::xs):=by unfold bK;exact⟨v,xs,rfl,h,r⟩
theorem bK.cy {w:Wd}{xs:List V}(h:bK w [] xs):xs=[]:=by unfold bK at h;exact h
theorem bK.bD {w:Wd}{t:Tr}{l:List Tr}{xs:List V}(h:bK w (t::l) xs):∃x r,xs=x::r/\RT w t x/\bK w l r:=by unfold bK at h;exact h
theorem bK.len {w:Wd}:∀{l:List Tr} {xs:List V},bK w l xs->xs.length=l.length
 |[],xs,h=>by rw[h.cy];rfl
 |d::l,xs,h=>by
  obtain⟨x,r,rfl,_,h2⟩:=h.bD;simp[bK.len h2]
theorem bK.get {w:Wd}:∀{l:List Tr} {xs:List V} {i:Nat} {t:Tr},bK w l xs->l[i]? = some t->∃v,xs[i]? = some v/\RT w t v
 |[],xs,i,t,h,e=>by simp at e
 |d::l,xs,i,t,h,e=>by
  obtain⟨x,r,rfl,h1,h2⟩:=h.bD;cases i with
  |zero=>simp at e;subst e;exact⟨x,rfl,h1⟩
  |succ i=>simpa using bK.get (i:=i) h2 (by simpa using e)
theorem bK.rq {w:Wd}:∀{l m:List Tr} {xs ys:List V},bK w l xs->bK w m ys->bK w (l++m) (xs++ys)
 |[],m,xs,ys,h,g=>by rw[h.cy];exact g
 |d::l,m,xs,ys,h,g=>by
  obtain⟨x,r,rfl,h1,h2⟩:=h.bD;exact .cons h1 (bK.rq h2 g)
theorem bK.set {w:Wd}{t:Tr}{v:V}(ht:RT w t v):∀{l:List Tr} {xs:List V} (i:Nat),bK w l xs->bK w (l.set i t) (xs.set i v)
 |[],xs,i,h=>by rw[h.cy];exact .nil
 |d::l,xs,i,h=>by
  obtain⟨x,r,rfl,h1,h2⟩:=h.bD;cases i with
  |zero=>exact .cons ht h2
  |succ i=>exact .cons h1 (bK.set ht i h2)
theorem bK.take {w:Wd}:∀{l:List Tr} {xs:List V} (n:Nat),bK w l xs->bK w (l.take n) (xs.take n)
 |[],xs,n,h=>by rw[h.cy];simp;exact .nil
 |d::l,xs,0,h=>by simp;exact .nil
 |d::l,xs,n+1,h=>by
  obtain⟨x,r,rfl,h1,h2⟩:=h.bD;exact .cons h1 (bK.take n h2)
theorem bK.drop {w:Wd}:∀{l:List Tr} {xs:List V} (n:Nat),bK w l xs->bK w (l.drop n) (xs.drop n)
 |[],xs,n,h=>by rw[h.cy];simp;exact .nil
 |d::l,xs,0,h=>h
 |d::l,xs,n+1,h=>by
  obtain⟨x,r,rfl,h1,h2⟩:=h.bD;exact bK.drop n h2
theorem bK.snoc {w:Wd}{l:List Tr}{xs:List V}{t:Tr}{v:V}(h:bK w l xs)(g:RT w t v):bK w (l++[t]) (xs++[v]):=h.rq (.cons g .nil)
noncomputable def RK (w:Wd){α:Type}(l:List (α × Tr))(m:List (α × V)):Prop:=m.map Prod.fst=l.map Prod.fst/\bK w (l.map Prod.snd) (m.map Prod.snd)
theorem RK.mono {w w':Wd}(le:w.le w'){α:Type}{l:List (α × Tr)}{m:List (α × V)}(h:RK w l m):RK w' l m:=⟨h.1,bK.mono le _ _ h.2⟩
theorem RK.nil {w:Wd}{α:Type}:RK w ([]:List (α × Tr)) []:=⟨rfl,.nil⟩
theorem RK.cons {w:Wd}{α:Type}{k:α}{t:Tr}{v:V}{l:List (α × Tr)}{m:List (α × V)}(h:RT w t v)(r:RK w l m):RK w ((k,t)::l) ((k,v)::m):=⟨by simp[r.1],.cons h r.2⟩
theorem RK.bD {w:Wd}{α:Type}{k:α}{t:Tr}{l:List (α × Tr)}{m:List (α × V)}(h:RK w ((k,t)::l) m):∃v r,m=(k,v)::r/\RT w t v/\RK w l r:=by
 obtain⟨h1,h2⟩:=h;cases m with
 |nil=>simp at h1
 |cons p r =>
  obtain⟨q,v⟩:=p;simp only[zas,List.cons.injEq] at h1;obtain⟨x,r',e,g1,g2⟩:=h2.bD;simp only[zas,List.cons.injEq] at e;obtain⟨rfl,rfl⟩:=e;obtain⟨rfl,e2⟩:=h1;exact⟨v,r,rfl,g1,e2,g2⟩
theorem RK.cy {w:Wd}{α:Type}{m:List (α × V)}(h:RK w ([]:List (α × Tr)) m):m=[]:=by simpa using h.1
theorem RK.len {w:Wd}{α:Type}{l:List (α × Tr)}{m:List (α × V)}(h:RK w l m):m.length=l.length:=by simpa using congrArg List.length h.1
noncomputable def eE (S:Cs)(i:Nat):Prop:=∃c,S[i]? = some c/\c.fz=false
open Classical in
noncomputable def Fz (ρ:Nat->Addr)(hid:Hp)(S:Cs)(H:Hp):Hp:=λb=>if (∃i,eE S i /\ ρ i=b)\/hid b≠none then none else H b
structure Gx where
 K:W.Frag
 cl:Str->Addr
 E:XK
noncomputable def bH (G:Gx)(w:Wd)(H:Hp)(a:Addr):Ce->Prop
 |.sJ=>True
 |.bM l=>∃xs,H a=some (.bM xs)/\bK w l xs
 |.jt l=>∃aP,H a=some (.dK aP)/\RK w l aP
 |.d_ c fs=>∃dx sM,H a=some (.d_ (G.cl c) dx sM)/\RK w fs sM
 |.sL c fs=>∃T d sM,H a=some (qy a (G.cl c) (some d) T)/\w.F T=some (TB T)/\w.F d=some (ED d sM)/\T≠a/\d≠a/\RK w fs sM
 |.Pb l=>∃aP,H a=some (.dT aP)/\RK w l aP
 |.vM l=>∃o aP,w.F a=some (.qY o (.dK aP))/\RK w l aP
 |.Dt l=>∃o aP,w.F a=some (.qY o (.dT aP))/\RK w l aP
theorem bH.mono {G:Gx}{w w':Wd}(le:w.le w'){H H':Hp}{a:Addr}(hH:∀o,H a=some o->H' a=some o):∀{c:Ce},bH G w H a c->bH G w' H' a c
 |.sJ,_=>trivial
 |.bM l,h=>let ⟨xs,e,r⟩:=h;⟨xs,hH _ e,bK.mono le _ _ r⟩
 |.jt l,h=>let ⟨xs,e,r⟩:=h;⟨xs,hH _ e,r.mono le⟩
 |.d_ c l,h=>let ⟨dx,xs,e,r⟩:=h;⟨dx,xs,hH _ e,r.mono le⟩
 |.sL c l,h=>let ⟨T,d,xs,e,e2,e3,n1,n2,r⟩:=h;⟨T,d,xs,hH _ e,le.F _ _ e2,le.F _ _ e3,n1,n2,r.mono le⟩
 |.Pb l,h=>let ⟨xs,e,r⟩:=h;⟨xs,hH _ e,r.mono le⟩
 |.vM l,h=>let ⟨o,xs,e,r⟩:=h;⟨o,xs,le.F _ _ e,r.mono le⟩
 |.Dt l,h=>let ⟨o,xs,e,r⟩:=h;⟨o,xs,le.F _ _ e,r.mono le⟩
theorem bH.Lq {G:Gx}{w w':Wd}(le:w.le w'){H H':Hp}{a:Addr}:∀{c:Ce},c.fz=true->bH G w H a c->bH G w' H' a c
 |.sJ,_,_=>trivial
 |.vM l,_,h=>let ⟨o,xs,e,r⟩:=h;⟨o,xs,le.F _ _ e,r.mono le⟩
 |.Dt l,_,h=>let ⟨o,xs,e,r⟩:=h;⟨o,xs,le.F _ _ e,r.mono le⟩
theorem RK.bB {w:Wd}(hid:Hp){α:Type}{l:List (α × Tr)}{m:List (α × V)}(h:RK w l m):RK {w with hid:=hid} l m:=⟨h.1,bK.bB hid _ _ h.2⟩
theorem bH.bB {G:Gx}{w:Wd}{hid:Hp}{H H':Hp}{a:Addr}(hH:∀o,H a=some o->H' a=some o):∀{c:Ce},bH G w H a c->bH G {w with hid:=hid} H' a c
 |.sJ,_=>trivial
 |.bM l,h=>let ⟨xs,e,r⟩:=h;⟨xs,hH _ e,bK.bB hid _ _ r⟩
 |.jt l,h=>let ⟨xs,e,r⟩:=h;⟨xs,hH _ e,r.bB hid⟩
 |.d_ c l,h=>let ⟨dx,xs,e,r⟩:=h;⟨dx,xs,hH _ e,r.bB hid⟩
 |.sL c l,h=>let ⟨T,d,xs,e,e2,e3,n1,n2,r⟩:=h;⟨T,d,xs,hH _ e,e2,e3,n1,n2,r.bB hid⟩
 |.Pb l,h=>let ⟨xs,e,r⟩:=h;⟨xs,hH _ e,r.bB hid⟩
 |.vM l,h=>let ⟨o,xs,e,r⟩:=h;⟨o,xs,e,r.bB hid⟩
 |.Dt l,h=>let ⟨o,xs,e,r⟩:=h;⟨o,xs,e,r.bB hid⟩
theorem bH.Ia {G:Gx}{w:Wd}{hid:Hp}{H H':Hp}{a:Addr}:∀{c:Ce},c.fz=true->bH G w H a c->bH G {w with hid:=hid} H' a c
 |.sJ,_,_=>trivial
 |.vM l,_,h=>let ⟨o,xs,e,r⟩:=h;⟨o,xs,e,r.bB hid⟩
 |.Dt l,_,h=>let ⟨o,xs,e,r⟩:=h;⟨o,xs,e,r.bB hid⟩
theorem bH.Zr {G:Gx}{w:Wd}{F' QU:Hp}(hF:∀b o,w.F b=some o->F' b=some o){H:Hp}{a:Addr}{c:Ce}(h:bH G w H a c):bH G {w with hid:=QU,F:=F' } H a c:=
 bH.mono (w:={w with hid:=QU}) (w':={w with hid:=QU,F:=F' }) ⟨rfl,zah _,λ_ _=>rfl,hF,rfl⟩ (λ_ e=>e) (bH.bB (hid:=QU) (λ_ e=>e) h)
theorem bH.some {G:Gx}{w:Wd}{H:Hp}{a:Addr}:∀{c:Ce},bH G w H a c->c.fz=false->∃o,H a=some o
 |.sJ,_,n=>by cases n
 |.bM l,h,_=>let ⟨xs,e,r⟩:=h;⟨_,e⟩
 |.jt l,h,_=>let ⟨xs,e,r⟩:=h;⟨_,e⟩
 |.d_ c l,h,_=>let ⟨dx,xs,e,r⟩:=h;⟨_,e⟩
 |.sL c l,h,_=>let ⟨T,d,xs,e,_⟩:=h;⟨_,e⟩
 |.Pb l,h,_=>let ⟨xs,e,r⟩:=h;⟨_,e⟩
 |.vM l,_,n=>by cases n
 |.Dt l,_,n=>by cases n
structure HR (G:Gx) (w:Wd) (S:Cs) (H:Hp):Prop where
 K:w.K=G.K
 n:w.n=S.length
 F:w.F=Fz w.ρ w.hid S H
 cell:∀i c,S[i]? = some c->bH G w H (w.ρ i) c
 inj:∀i j,eE S i->eE S j->w.ρ i=w.ρ j->i=j
 hid:∀b o,w.hid b=some o->H b=some o
 jJ:∀i,eE S i->w.hid (w.ρ i)=none
 hl:∀b xs,w.hid b≠some (.gS xs)
theorem HR.sub (h:HR G w S H):∀b o,w.F b=some o->H b=some o:=λb o e=>by
 rw[h.F] at e;unfold Fz at e;split at e
 ·cases e
 ·exact e
theorem HR.sqL (h:HR G w S H){a:Addr}{xs:List V}(s:iO w.K w.F a xs):iO G.K H a xs:=by rw[<-h.K];exact s.mono h.sub
theorem HR.sqT (h:HR G w S H){a:Addr}{xs:List V}(s:nA w.K w.F a xs):nA G.K H a xs:=by rw[<-h.K];exact s.mono h.sub
theorem HR.live (h:HR G w S H){i:Nat}(l:eE S i):∃o,H (w.ρ i)=some o:=by
 obtain⟨c,e,n⟩:=l;exact (h.cell i c e).some n
theorem HR.Fg (h:HR G w S H){p:Addr}(hp:H p=none):w.hid p=none:=by
 cases e:w.hid p with
 |none=>rfl
 |some o=>rw[h.hid p o e] at hp;cases hp
theorem HR.free (h:HR G w S H){p:Addr}(hp:H p=none):¬ ((∃i,eE S i/\w.ρ i=p)\/w.hid p≠none):=by
 rintro (⟨i,l,rfl⟩|z)
 ·obtain⟨o,e⟩:=h.live l
  rw[hp] at e;cases e
 ·exact z (h.Fg hp)
theorem HR.Lr (h:HR G w S H){p:Addr}(hp:H p=none):w.F p=none:=by rw[h.F];unfold Fz;rw[if_neg (h.free hp)];exact hp
theorem yR {hid:Hp}{H:Hp}{p:Addr}{o:HO}(h:∀b o,hid b=some o->H b=some o)(hp:hid p=none):∀b u,hid b=some u->bF H p o b=some u:=λb u e=>by
 rw[au λz=>by subst z;rw[hp] at e;cases e]
 exact h b u e
theorem Ls {hid:Hp}{p:Addr}{o:HO}(h:∀b xs,hid b≠some (.gS xs))(ho:∀xs,o ≠ .gS xs):∀b xs,bF hid p o b≠some (.gS xs):=λb xs e=>by
 by_cases hb:b=p
 ·subst hb;rw[az] at e;cases e;exact ho _ rfl
 ·rw[au hb] at e;exact h b xs e
theorem HR.lay (h:HR G w S H){p:Addr}(hp:H p=none)(o:HO):HR G {w with F:=bF w.F p o} S (bF H p o)/\w.le {w with F:=bF w.F p o}:=by
 have hn:=h.free hp;have hF:=h.Lr hp;have le:w.le {w with F:=bF w.F p o}:=⟨rfl,zah _,λ_ _=>rfl,λb u e=>j9 hF e,rfl⟩
 refine⟨⟨h.K,h.n,?_,λi c e=>(h.cell i c e).mono le λu eu=>j9 hp eu,h.inj,yR h.hid (h.Fg hp),h.jJ,h.hl⟩,le⟩
 show bF w.F p o=Fz w.ρ w.hid S (bF H p o)
 rw[h.F];funext b
 by_cases hb:b=p
 ·subst hb
  rw[az];unfold Fz;rw[if_neg hn,az]
 ·rw[au hb]
  unfold Fz;rw[au hb]
theorem wH {c:Ce}(hc:c.fz=false):∀i,eE (S++[c]) i↔eE S i\/i=S.length:=λi=>by
  constructor
  ·rintro⟨d,e,n⟩
   by_cases hi:i<S.length
   ·rw[zaj hi] at e;exact .inl ⟨d,e,n⟩
   ·rw[zat (by omega)] at e
    have:i - S.length<1:=by
     have:=(zab.mp e).1
     simpa using this
    exact .inr (by omega)
  ·rintro (⟨d,e,n⟩|rfl)
   ·exact⟨d,by rw[zaj (zab.mp e).1];exact e,n⟩
   ·exact⟨c,by simp,hc⟩
theorem eE.lt {i:Nat}(l:eE S i):i<S.length:=let ⟨_,e,_⟩:=l;(zab.mp e).1
noncomputable def Wd.up (w:Wd)(p:Addr):Wd:={w with n:=w.n+1,ρ:= λi=>if i=w.n then p else w.ρ i}
theorem Wd.sN (w:Wd)(p:Addr):w.le (w.up p):=⟨rfl,zbc _,λi hi=>by show (if i=w.n then p else w.ρ i)=_;rw[if_neg (by omega)],λb u e=>e,rfl⟩
theorem HR.af8 (h:HR G w S H){p:Addr}{H':Hp}{c:Ce}(hc:c.fz=false)(rA:∀i,eE S i->w.ρ i≠p)(hH:∀b,b≠p->H' b=H b)(hF:w.F p=none)(hh:w.hid p=none)
  (ok:bH G (w.up p) H' p c):HR G (w.up p) (S++[c]) H':=by
 have lv:=wH (S:=S) hc
 have le:=w.sN p;have iw:∀i,i<S.length->(w.up p).ρ i=w.ρ i:=λi hi=>le.r i (by rw[h.n];exact hi)
 have pJ:(w.up p).ρ S.length=p:=by show (if S.length=w.n then p else w.ρ S.length)=p;rw[if_pos h.n.symm]
 refine⟨h.K,by show w.n+1=_;simp[h.n],?_,λi d e=>?_,λi j li lj e=>?_,λb o e=>?_,λi li=>?_,h.hl⟩
 ·show w.F=Fz (w.up p).ρ w.hid (S++[c]) H'
  rw[h.F];funext b
  unfold Fz;by_cases hb:b=p
  ·subst hb
   rw[h.F] at hF;unfold Fz at hF;rw[hF,if_pos (.inl ⟨S.length,(lv _).mpr (.inr rfl),pJ⟩)]
  ·rw[hH b hb]
   have UA:(∃i,eE (S++[c]) i/\(w.up p).ρ i=b)↔∃i,eE S i/\w.ρ i=b:=by
    constructor
    ·rintro⟨i,li,e⟩
     rcases (lv i).mp li with l|rfl
     ·rw[iw i l.lt] at e
      exact⟨i,l,e⟩
     ·rw[pJ] at e;exact absurd e.symm hb
    ·rintro⟨i,l,e⟩
     exact⟨i,(lv i).mpr (.inl l),by rw[iw i l.lt];exact e⟩
   by_cases hx:(∃i,eE S i/\w.ρ i=b)\/w.hid b≠none
   ·rw[if_pos hx,if_pos (hx.imp UA.mpr λz=>z)]
   ·rw[if_neg hx,if_neg (λz=>hx (z.imp UA.mp λz=>z))]
 ·by_cases hi:i<S.length
  ·rw[zaj hi] at e
   rw[iw i hi];cases hd:d.fz with
   |true=>exact bH.Lq le hd (h.cell i d e)
   |false=>exact (h.cell i d e).mono le λu eu=>by rw[hH _ (rA i ⟨d,e,hd⟩)];exact eu
  ·rw[zat (by omega)] at e
   have h0:i - S.length<1:=by simpa using (zab.mp e).1
   have h1:i=S.length:=by omega
   subst h1;simp at e
   subst e;rw[pJ];exact ok
 ·rcases (lv i).mp li with l|rfl
  ·rcases (lv j).mp lj with l' | rfl
   ·rw[iw i l.lt,iw j l'.lt] at e
    exact h.inj i j l l' e
   ·rw[iw i l.lt,pJ] at e
    exact absurd e (rA i l)
  ·rcases (lv j).mp lj with l' | rfl
   ·rw[pJ,iw j l'.lt] at e
    exact absurd e.symm (rA j l')
   ·rfl
 ·have e2:w.hid b=some o:=e
  rw[hH b λz=>by subst z;rw[hh] at e2;cases e2]
  exact h.hid b o e2
 ·show w.hid _=none
  rcases (lv i).mp li with l|rfl
  ·rw[iw i l.lt];exact h.jJ i l
  ·rw[pJ];exact hh
theorem HR.Lu (h:HR G w S H){p:Addr}(hp:H p=none):∀i,eE S i->w.ρ i≠p:=λi l z=>h.free hp (.inl ⟨i,l,z⟩)
theorem HR.Ib (h:HR G w S H){p:Addr}(hp:H p=none){o:HO}{c:Ce}(hc:c.fz=false)(ok:bH G (w.up p) (bF H p o) p c):HR G (w.up p) (S++[c]) (bF H p o)/\w.le (w.up p):=
 ⟨h.af8 hc (h.Lu hp) (λb hb=>au hb) (h.Lr hp) (h.Fg hp) ok,w.sN p⟩
theorem HR.C8 (h:HR G w S H){i:Nat}{c c':Ce}(e:S[i]? = some c)(hc:c.fz=false)(Po:c'.fz=false){o:HO}(ok:bH G w (bF H (w.ρ i) o) (w.ρ i) c'):HR G w (S.set i c') (bF H (w.ρ i) o):=by
 have hi:=(zab.mp e).1
 have lv:∀j,eE (S.set i c') j↔eE S j:=λj=>by
  unfold eE;by_cases hj:i=j
  ·subst hj
   rw[zaB hi];exact⟨λ_=>⟨c,e,hc⟩,λ_=>⟨c',rfl,Po⟩⟩
  ·rw[zaA hj]
 have li:eE S i:=⟨c,e,hc⟩
 refine⟨h.K,by simp[h.n],?_,λj d ej=>?_,λa b la lb=>h.inj a b ((lv a).mp la) ((lv b).mp lb),yR h.hid (h.jJ i li),λj lj=>h.jJ j ((lv j).mp lj),h.hl⟩
 ·rw[h.F]
  funext b
  unfold Fz;by_cases hn:(∃i,eE S i/\w.ρ i=b)\/w.hid b≠none
  ·rw[if_pos hn,if_pos (hn.imp (λz=>z.imp λj hj=>⟨(lv j).mpr hj.1,hj.2⟩) λz=>z)]
  ·rw[if_neg hn,if_neg (λz=>hn (z.imp (λz=>z.imp λj hj=>⟨(lv j).mp hj.1,hj.2⟩) λz=>z)),au λz=>hn (.inl ⟨i,⟨c,e,hc⟩,z.symm⟩)]
 ·by_cases hj:i=j
  ·subst hj
   rw[zaB hi] at ej;cases ej;exact ok
  ·rw[zaA hj] at ej
   cases hd:d.fz with
   |true=>exact bH.Lq (Wd.le.refl w) hd (h.cell j d ej)
   |false =>
    refine (h.cell j d ej).mono (Wd.le.refl w) λu eu=>?_
    rw[au λz=>hj (h.inj i j ⟨c,e,hc⟩ ⟨d,ej,hd⟩ z.symm)]
    exact eu
theorem HR.aly (h:HR G w S H){p:Addr}(hp:H p=none)(o:HO)(ho:∀xs,o ≠ .gS xs):HR G {w with hid:=bF w.hid p o} S (bF H p o):=by
 have hn:=h.free hp;have wi:∀{t:Tr} {v:V},RT w t v->RT {w with hid:=bF w.hid p o} t v:=λ{t v} r=>RT.bB _ t v r
 refine⟨h.K,h.n,?_,λi c e=>(h.cell i c e).bB λu eu=>j9 hp eu,h.inj,λb u e=>?_,λi l=>?_,Ls h.hl ho⟩
 ·show w.F=Fz w.ρ (bF w.hid p o) S (bF H p o)
  rw[h.F];funext b
  unfold Fz;by_cases hb:b=p
  ·subst hb
   rw[if_neg hn,if_pos (.inr (by rw[az];simp)),hp]
  ·rw[au hb,au hb]
 ·have e:bF w.hid p o b=some u:=e
  by_cases hb:b=p
  ·subst hb;rw[az] at e ⊢;exact e
  ·rw[au hb] at e ⊢;exact h.hid b u e
 ·show bF w.hid p o _=none
  rw[au (h.Lu hp i l)];exact h.jJ i l
theorem HR.Zs (h:HR G w S H){p:Addr}{o:HO}(hp:w.hid p=some o)(o':HO)(ho:∀xs,o' ≠ .gS xs):HR G {w with hid:=bF w.hid p o' } S (bF H p o'):=by
 have rA:∀i,eE S i->w.ρ i≠p:=λi l z=>by have:=h.jJ i l;rw[z,hp] at this;cases this
 refine⟨h.K,h.n,?_,λi c e=>?_,h.inj,λb u e=>?_,λi l=>?_,Ls h.hl ho⟩
 ·show w.F=Fz w.ρ (bF w.hid p o') S (bF H p o')
  rw[h.F];funext b
  unfold Fz;by_cases hb:b=p
  ·subst hb
   rw[if_pos (.inr (by rw[hp];simp)),if_pos (.inr (by rw[az];simp))]
  ·rw[au hb,au hb]
 ·cases hd:c.fz with
  |true=>exact bH.Ia hd (h.cell i c e)
  |false=>exact (h.cell i c e).bB λu eu=>by rw[au (rA i ⟨c,e,hd⟩)];exact eu
 ·have e:bF w.hid p o' b=some u:=e
  by_cases hb:b=p
  ·subst hb;rw[az] at e ⊢;exact e
  ·rw[au hb] at e ⊢;exact h.hid b u e
 ·show bF w.hid p o' _=none
  rw[au (rA i l)];exact h.jJ i l
theorem HR.af9 (h:HR G w S H){p:Addr}{o:HO}{lA:Hp}(e0:w.hid=bF lA p o)(Zt:lA p=none):HR G {w with hid:=lA,F:=bF w.F p o} S H:=by
 have hp:w.hid p=some o:=by rw[e0];exact az
 have hH:H p=some o:=h.hid p o hp
 have rA:∀i,eE S i->w.ρ i≠p:=λi l z=>by have:=h.jJ i l;rw[z,hp] at this;cases this
 have hF:w.F p=none:=by rw[h.F];unfold Fz;rw[if_pos (.inr (by rw[hp];simp))]
 refine⟨h.K,h.n,?_,λi c e=>?_,h.inj,λb u e=>?_,λi l=>?_,λb xs (e:lA b=_)=>h.hl b xs (by rw[e0,au λz=>by rw[z,Zt] at e;cases e];exact e)⟩
 ·show bF w.F p o=Fz w.ρ lA S H
  rw[h.F];funext b
  unfold Fz;by_cases hb:b=p
  ·subst hb
   rw[az,if_neg,hH];rintro (⟨i,l,z⟩|z)
   ·exact rA i l z
   ·exact z Zt
  ·rw[au hb,e0,au hb]
 ·exact bH.Zr (λb u e=>j9 hF e) (h.cell i c e)
 ·have e2:lA b=some u:=e
  have nb:b≠p:=λz=>by rw[z,Zt] at e2;cases e2
  exact h.hid b u (by rw[e0,au nb];exact e2)
 ·have:=h.jJ i l
  rw[e0,au (rA i l)] at this;exact this
theorem HR.QV (h:HR G w S H){p:Addr}{o:HO}{lA:Hp}(e0:w.hid=bF lA p o)(Zt:lA p=none){c:Ce}(hc:c.fz=false)(ok:bH G ({w with hid:=lA}.up p) H p c):HR G ({w with hid:=lA}.up p) (S++[c]) H:=by
 have hp:w.hid p=some o:=by rw[e0];exact az
 have rA:∀i,eE S i->w.ρ i≠p:=λi l z=>by have:=h.jJ i l;rw[z,hp] at this;cases this
 have lv:=wH (S:=S) hc
 have le:=({w with hid:=lA}:Wd).sN p
 have iw:∀i,i<S.length->(if i=w.n then p else w.ρ i)=w.ρ i:=λi hi=>by rw[if_neg (by rw[h.n];omega)]
 have pJ:(if S.length=w.n then p else w.ρ S.length)=p:=by rw[if_pos h.n.symm]
 refine⟨h.K,by show w.n+1=_;simp[h.n],?_,λi d e=>?_,λi j li lj e=>?_,λb u e=>?_,λi li=>?_,λb xs (e:lA b=_)=>h.hl b xs (by rw[e0,au λz=>by rw[z,Zt] at e;cases e];exact e)⟩
 ·show w.F=Fz (λi=>if i=w.n then p else w.ρ i) lA (S++[c]) H
  rw[h.F];funext b
  unfold Fz;by_cases hb:b=p
  ·subst hb
   rw[if_pos (.inr (by rw[hp];simp)),if_pos (.inl ⟨S.length,(lv _).mpr (.inr rfl),pJ⟩)]
  ·have UA:(∃i,eE (S++[c]) i/\(if i=w.n then p else w.ρ i)=b)↔∃i,eE S i/\w.ρ i=b:=by
    constructor
    ·rintro⟨i,li,e⟩
     rcases (lv i).mp li with l|rfl
     ·rw[iw i l.lt] at e
      exact⟨i,l,e⟩
     ·rw[pJ] at e;exact absurd e.symm hb
    ·rintro⟨i,l,e⟩
     exact⟨i,(lv i).mpr (.inl l),by rw[iw i l.lt];exact e⟩
   have eh:w.hid b=lA b:=by rw[e0,au hb]
   by_cases hx:(∃i,eE S i/\w.ρ i=b)\/w.hid b≠none
   ·rw[if_pos hx,if_pos (hx.imp UA.mpr λz=>by rw[<-eh];exact z)]
   ·rw[if_neg hx,if_neg (λz=>hx (z.imp UA.mp λz=>by rw[eh];exact z))]
 ·by_cases hi:i<S.length
  ·rw[zaj hi] at e
   show bH G _ H (if i=w.n then p else w.ρ i) d
   rw[iw i hi];exact ((h.cell i d e).bB (hid:=lA) λu eu=>eu).mono le λu eu=>eu
  ·rw[zat (by omega)] at e
   have h0:i - S.length<1:=by simpa using (zab.mp e).1
   have h1:i=S.length:=by omega
   subst h1;simp at e
   subst e;show bH G _ H (if S.length=w.n then p else w.ρ S.length) c
   rw[pJ];exact ok
 ·have e:(if i=w.n then p else w.ρ i)=(if j=w.n then p else w.ρ j):=e
  rcases (lv i).mp li with l|rfl
  ·rcases (lv j).mp lj with l' | rfl
   ·rw[iw i l.lt,iw j l'.lt] at e
    exact h.inj i j l l' e
   ·rw[iw i l.lt,pJ] at e
    exact absurd e (rA i l)
  ·rcases (lv j).mp lj with l' | rfl
   ·rw[pJ,iw j l'.lt] at e
    exact absurd e.symm (rA j l')
   ·rfl
 ·have e2:lA b=some u:=e
  have nb:b≠p:=λz=>by rw[z,Zt] at e2;cases e2
  exact h.hid b u (by rw[e0,au nb];exact e2)
 ·show lA (if i=w.n then p else w.ρ i)=none
  rcases (lv i).mp li with l|rfl
  ·rw[iw i l.lt]
   have:=h.jJ i l
   rw[e0,au (rA i l)] at this;exact this
  ·rw[pJ];exact Zt
theorem Zu {ρ:Nat->Addr}{hid:Hp}{m:Nat}:∀b o,Fz ρ hid S H b=some o->Fz ρ hid (S.take m) H b=some o:=λb o e=>by
 unfold Fz at e ⊢
 split at e
 ·cases e
 ·rename_i hn
  rw[if_neg]
  ·exact e
  ·rintro (⟨i,⟨c,ei,n⟩,r⟩|z)
   ·have hi:=(zab.mp ei).1
    rw[zaQ] at hi;rw[zbA (by omega)] at ei
    exact hn (.inl ⟨i,⟨c,ei,n⟩,r⟩)
   ·exact hn (.inr z)
theorem HR.cut (h:HR G w S H){m:Nat}(hm:m<=S.length)(hb:∀i c,(S.take m)[i]? = some c->bH G {w with n:=m,F:=Fz w.ρ w.hid (S.take m) H} H (w.ρ i) c):HR G {w with n:=m,F:=Fz w.ρ w.hid (S.take m) H} (S.take m) H:=by
 have lv:∀i,eE (S.take m) i->eE S i:=λi ⟨c,e,n⟩=>⟨c,by
  have hi:=(zab.mp e).1
  rw[zaQ] at hi;rw[zbA (by omega)] at e
  exact e,n⟩
 exact⟨h.K,by simp;omega,rfl,hb,λi j li lj e=>h.inj i j (lv i li) (lv j lj) e,h.hid,λi l=>h.jJ i (lv i l),h.hl⟩
inductive R (α:Type) where
 |ok (a:α) (s:Cs)|ex (n:Nat) (s:Cs)|aG
noncomputable def R.aE {α β:Type}(r:R α)(k:α -> Cs->R β):R β:= match r with|.ok a s=>k a s|.ex n s=>.ex n s|.aG=>.aG
theorem R.eL {α β:Type}(a:α)(s:Cs)(k:α -> Cs->R β):(R.ok a s).aE k=k a s:=rfl
theorem R.QW {α β:Type}(k:α -> Cs->R β):(R.aG:R α).aE k = .aG:=rfl
noncomputable def vN {α:Type}(c:Prop)(a b:α):α:= @ite α c (Classical.propDecidable c) a b
theorem oJ {α:Type}{c:Prop}(h:c)(a b:α):vN c a b=a:=by unfold vN;rw[if_pos h]
theorem aga {α:Type}(a b:α):vN True a b=a:=oJ trivial a b
inductive RS where
 |nx (τ:List (Option Tr)) (s:Cs)|rt (t:Tr) (s:Cs)|bk (τ:List (Option Tr)) (s:Cs)|ct (τ:List (Option Tr)) (s:Cs)|ex (n:Nat) (s:Cs)|aG
noncomputable abbrev En:=List (Option Tr)
noncomputable abbrev Em:=En->Cs->R Tr
noncomputable abbrev Sm:=En->Cs->RS
structure Sl (w:Wd) (τ:En) (σ:St):Prop where
 len:τ.length=σ.length
 qO:∀(i:Nat) (t:Tr),τ[i]? = some (some t)->∃v,σ[i]? = some (some v)/\RT w t v
theorem Sl.mono {w w':Wd}(le:w.le w'){τ:En}{σ:St}(h:Sl w τ σ):Sl w' τ σ:= ⟨h.len,λi t e=>let ⟨v,e2,r⟩:=h.qO i t e;⟨v,e2,RT.mono le t v r⟩⟩
theorem Sl.set (h:Sl w τ σ)(i:Nat)(r:RT w t v):Sl w (τ.set i (some t)) (σ.set i (some v)):=by
 refine⟨by simp[h.len],λj u e=>?_⟩
 by_cases hj:i=j
 ·subst hj
  have hi:i<τ.length:=by
   have:=(zab.mp e).1
   simpa using this
  rw[zaB hi] at e;cases e;exact⟨v,by rw[zaB (by rw[<-h.len];exact hi)],r⟩
 ·rw[zaA hj] at e
  rw[zaA hj];exact h.qO j u e
theorem Sl.Lv (h:Sl w τ σ)(i:Nat)(x:Option V):Sl w (τ.set i none) (σ.set i x):=by
 refine⟨by simp[h.len],λj u e=>?_⟩
 by_cases hj:i=j
 ·subst hj
  have hi:i<τ.length:=by
   have:=(zab.mp e).1
   simpa using this
  rw[zaB hi] at e;cases e
 ·rw[zaA hj] at e
  rw[zaA hj];exact h.qO j u e
noncomputable def sO (G:Gx)(w:Wd)(n:Nat)(S':Cs):Prop:=∃c fs,S'[n]? = some (.sL c fs)/\∀w' H',w.le w'->HR G w' S' H'->G.E (.ref (G.cl c)) (some (w'.ρ n)) H'
theorem sO.mono {G:Gx}{w w1:Wd}(le:w.le w1){n:Nat}{S:Cs}(h:sO G w n S):sO G w1 n S:=let ⟨c,fs,e,k⟩:=h;⟨c,fs,e,λw' H' l hr=>k w' H' (le.trans l) hr⟩
noncomputable def bz {α β:Type}(jg:Wd -> α -> β -> Prop)(G:Gx)(w:Wd)(r:R α)(Q:β -> Hp->Prop):Prop:=match r with
 |.ok a S'=>∀w' H' b,w.le w'->HR G w' S' H'->jg w' a b->Q b H'
 |.ex n S'=>sO G w n S'
 |.aG=>False
theorem bz.mono {α β:Type}{jg:Wd -> α -> β -> Prop}{G:Gx}{w:Wd}{r:R α}{Q Q' : β -> Hp->Prop}(h:bz jg G w r Q)(k:∀b H,Q b H->Q' b H):bz jg G w r Q':=by
 cases r with
 |ok a S=>exact λw' H' b le hr rl=>k _ _ (h w' H' b le hr rl)
 |ex n S=>exact h
 |aG=>exact h
theorem bz.wd {α β:Type}{jg:Wd -> α -> β -> Prop}{G:Gx}{w w1:Wd}(le:w.le w1){r:R α}{Q:β -> Hp->Prop}(h:bz jg G w r Q):bz jg G w1 r Q:=by
 cases r with
 |ok a S=>exact λw' H' b l hr rl=>h w' H' b (le.trans l) hr rl
 |ex n S=>exact sO.mono le h
 |aG=>exact h
theorem bz.aE {α β γ δ:Type}{jg:Wd -> α -> β -> Prop}{agb:Wd -> γ -> δ -> Prop}{G:Gx}{w:Wd}{r:R α}{k:α -> Cs->R γ}{Q:δ -> Hp->Prop}(h:bz agb G w (r.aE k) Q):
  bz jg G w r (λb H1=>∃w1 S1 a,w.le w1/\HR G w1 S1 H1/\jg w1 a b/\r = .ok a S1/\bz agb G w1 (k a S1) Q):=by
 cases r with
 |ok a S=>exact λw' H' b le hr rl=>⟨w',S,a,le,hr,rl,rfl,bz.wd le h⟩
 |ex n S=>exact h
 |aG=>exact h
noncomputable def cC (G:Gx)(w:Wd)(r:RS)(D:rV):Prop:=match r with
 |.nx τ S'=>∀w' H' dS,w.le w'->HR G w' S' H'->Sl w' τ dS->D.nx dS H'
 |.bk τ S'=>∀w' H' dS,w.le w'->HR G w' S' H'->Sl w' τ dS->D.bk dS H'
 |.ct τ S'=>∀w' H' dS,w.le w'->HR G w' S' H'->Sl w' τ dS->D.ct dS H'
 |.rt t S'=>∀w' H' v,w.le w'->HR G w' S' H'->RT w' t v->D.rt v H'
 |.ex n S'=>sO G w n S'
 |.aG=>False
theorem cC.wd {G:Gx}{w w1:Wd}(le:w.le w1){r:RS}{D:rV}(h:cC G w r D):cC G w1 r D:=by
 cases r with
 |nx τ S=>exact λw' H' b l hr rl=>h w' H' b (le.trans l) hr rl
 |bk τ S=>exact λw' H' b l hr rl=>h w' H' b (le.trans l) hr rl
 |ct τ S=>exact λw' H' b l hr rl=>h w' H' b (le.trans l) hr rl
 |rt τ S=>exact λw' H' b l hr rl=>h w' H' b (le.trans l) hr rl
 |ex n S=>exact sO.mono le h
 |aG=>exact h
noncomputable def R.bP {α:Type}(r:R α)(k:α -> Cs->RS):RS:=match r with|.ok a s=>k a s|.ex n s=>.ex n s|.aG=>.aG
theorem R.eN {α:Type}(a:α)(s:Cs)(k:α -> Cs->RS):(R.ok a s).bP k=k a s:=rfl
theorem R.Fi {α:Type}(n:Nat)(s:Cs)(k:α -> Cs->RS):(R.ex n s:R α).bP k = .ex n s:=rfl
theorem R.AL {α:Type}(k:α -> Cs->RS):(R.aG:R α).bP k = .aG:=rfl
theorem cC.aE {α β:Type}{jg:Wd -> α -> β -> Prop}{G:Gx}{w:Wd}{r:R α}{k:α -> Cs->RS}{D:rV}(h:cC G w (r.bP k) D):
  bz jg G w r (λb H1=>∃w1 S1 a,w.le w1/\HR G w1 S1 H1/\jg w1 a b/\r = .ok a S1/\cC G w1 (k a S1) D):=by
 cases r with
 |ok a S=>exact λw' H' b le hr rl=>⟨w',S,a,le,hr,rl,rfl,cC.wd le h⟩
 |ex n S=>exact h
 |aG=>exact h
structure ju (G:Gx) (k:Nat) (X:Cx):Prop where
 K:X.K=G.K
 fQ:0<k->X.fQ=true
 room:0<k->gE k X.A
 un:X.A.units+200<cLine
theorem ju.hu (o:ju G k X):X.A.units+100<cLine:=by have:=o.un;omega
theorem ju.hu1 (o:ju G k X):X.A.units+1<cLine:=by have:=o.hu;omega
noncomputable def fO (G:Gx)(f:Em):TE:=λσ H Q=>∃w S τ,HR G w S H/\Sl w τ σ /\ bz RT G w (f τ S) Q
noncomputable def AM (G:Gx)(f:En->Cs->R Bool):TT:=λσ H Q=>∃w S τ,HR G w S H/\Sl w τ σ /\ bz (λ_ a b=>a=b) G w (f τ S) Q
noncomputable def Du (G:Gx)(f:En->Cs->R (List Tr)):TA:=λσ H Q=>∃w S τ,HR G w S H/\Sl w τ σ /\ bz bK G w (f τ S) Q
noncomputable def Lw (G:Gx)(f:Sm):TS:=λD σ H=>∃w S τ,HR G w S H/\Sl w τ σ /\ cC G w (f τ S) D
noncomputable def Zv (G:Gx)(f:Tr->En->Cs->R En):TG:=λv σ H Q=>∃w S τ t,HR G w S H/\Sl w τ σ /\ RT w t v/\bz Sl G w (f t τ S) Q
structure TV (G:Gx) (k:Nat) (X:Cx) (e:Expr) (f:Em):Prop where
 jW:ju G k X->PE X e (fO G f)
noncomputable instance {G:Gx}{k:Nat}{X:Cx}{e:Expr}{f:Em}:CoeFun (TV G k X e f) (λ_=>ju G k X->PE X e (fO G f)):=⟨TV.jW⟩
structure CH (G:Gx) (k:Nat) (X:Cx) (e:Expr) (f:En->Cs->R Bool):Prop where
 jW:ju G k X->PT X e (AM G f)
noncomputable instance {G:Gx}{k:Nat}{X:Cx}{e:Expr}{f:En->Cs->R Bool}:CoeFun (CH G k X e f) (λ_=>ju G k X->PT X e (AM G f)):=⟨CH.jW⟩
structure Lx (G:Gx) (k:Nat) (X:Cx) (e:Expr) (f:En->Cs->R Bool):Prop where
 jW:ju G k X->PW X e (AM G f)
noncomputable instance {G:Gx}{k:Nat}{X:Cx}{e:Expr}{f:En->Cs->R Bool}:CoeFun (Lx G k X e f) (λ_=>ju G k X->PW X e (AM G f)):=⟨Lx.jW⟩
structure vO (G:Gx) (k:Nat) (X:Cx) (es:List Expr) (f:En->Cs->R (List Tr)):Prop where
 jW:ju G k X->PA X es (Du G f)
noncomputable instance {G:Gx}{k:Nat}{X:Cx}{es:List Expr}{f:En->Cs->R (List Tr)}:CoeFun (vO G k X es f) (λ_=>ju G k X->PA X es (Du G f)):=⟨vO.jW⟩
structure yS (G:Gx) (k:Nat) (X:Cx) (st:Stmt) (f:Sm):Prop where
 jW:ju G k X->PS X st (Lw G f)
noncomputable instance {G:Gx}{k:Nat}{X:Cx}{st:Stmt}{f:Sm}:CoeFun (yS G k X st f) (λ_=>ju G k X->PS X st (Lw G f)):=⟨yS.jW⟩
structure Ic (G:Gx) (k:Nat) (X:Cx) (st:List Stmt) (f:Sm):Prop where
 jW:ju G k X->vY X st (Lw G f)
noncomputable instance {G:Gx}{k:Nat}{X:Cx}{st:List Stmt}{f:Sm}:CoeFun (Ic G k X st f) (λ_=>ju G k X->vY X st (Lw G f)):=⟨Ic.jW⟩
structure Lz (G:Gx) (k:Nat) (X:Cx) (tg:Expr) (f:Tr->En->Cs->R En):Prop where
 jW:ju G k X->PG X tg (Zv G f)
noncomputable instance {G:Gx}{k:Nat}{X:Cx}{tg:Expr}{f:Tr->En->Cs->R En}:CoeFun (Lz G k X tg f) (λ_=>ju G k X->PG X tg (Zv G f)):=⟨Lz.jW⟩
section
variable {X:Cx}{e:Expr}{st:Stmt}{sts:List Stmt}{es:List Expr}
theorem PE.wk {t t':TE}(h:PE X e t)(g:∀ σ H Q,t' σ H Q->t σ H Q):PE X e t':=λah s σ H Q I q=>h ah s σ H Q I (g _ _ _ q)
theorem PT.wk {t t':TT}(h:PT X e t)(g:∀ σ H Q,t' σ H Q->t σ H Q):PT X e t':=λah s σ H Q I q=>h ah s σ H Q I (g _ _ _ q)
theorem PW.wk {t t':TT}(h:PW X e t)(g:∀ σ H Q,t' σ H Q->t σ H Q):PW X e t':=λwh ah s σ H Q I q=>h wh ah s σ H Q I (g _ _ _ q)
theorem PA.wk {t t':TA}(h:PA X es t)(g:∀ σ H Q,t' σ H Q->t σ H Q):PA X es t':=λpos ah s σ H Q I q=>h pos ah s σ H Q I (g _ _ _ q)
theorem PS.wk {t t':TS}(h:PS X st t)(g:∀D σ H,t' D σ H->t D σ H):PS X st t':=λah s σ H D I q=>h ah s σ H D I (g _ _ _ q)
theorem vY.wk {t t':TS}(h:vY X sts t)(g:∀D σ H,t' D σ H->t D σ H):vY X sts t':=λah s σ H D I q=>h ah s σ H D I (g _ _ _ q)
theorem PG.wk {t t':TG}(h:PG X e t)(g:∀v σ H Q,t' v σ H Q->t v σ H Q):PG X e t':=λah s σ H v u Q I r q=>h ah s σ H v u Q I r (g _ _ _ _ q)
end
noncomputable def dP:Expr->Bool|.Starred _ _=>true|_=>false
noncomputable def dc:List Expr->Bool|[]=>true|e::r=>!dP e && dc r
theorem eO {e:Expr}{es:List Expr}{env:Env}(h:dP e=false):starEach (e::es) env=(false,eval e env)::starEach es env:=by
 cases e<;>first|rfl | (cases h;done)
theorem gr:∀{es:List Expr},dc es=true->(backTo pos (starEach es env)).any (·.1)=false
 |[],_=>rfl
 |e::es,h=>by
  have h:=zbf.mp (show (!dP e && dc es)=true from h)
  rw[eO (by simpa using h.1)]
  show (false || (backTo pos (starEach es env)).any (·.1))=false
  rw[gr h.2];rfl
theorem AN:∀{es:List Expr},dc es=true->(backTo pos (starEach es env)).all (λx=>!x.1)=true
 |[],_=>rfl
 |e::es,h=>by
  have h:=zbf.mp (show (!dP e && dc es)=true from h)
  rw[eO (by simpa using h.1)]
  show (true && (backTo pos (starEach es env)).all (λx=>!x.1))=true
  rw[AN h.2];rfl
section
variable {G:Gx}{k:Nat}{X:Cx}{a b c:Expr}{fa fb fc:Em}{pos Dq:Pos}
noncomputable def aa (i:Nat):Em:=λτ S=>match τ[i]? with|some (some t)=>.ok t S|_=>.aG
noncomputable def mC (t:Tr):Em:=λ_ S=>.ok t S
theorem Zw (i:Nat)(hN:autoParam (X.N[i]? = some x) zp_0)(hv:autoParam (Vis X.env.scope x) zp_7)(hd:autoParam ((x == ("__debug__" : Str))=false) zp_1)
  (Aj:autoParam ((x == ("__classdict__" : Str))=false) zp_1):TV G k X (.Name x pos) (aa i):=.mk<|λ_=>(JZ hN hv hd Aj).wk λσ H Q h=>by
 obtain⟨w,S,τ,hr,sl,q⟩:=h;unfold aa at q;split at q
 ·rename_i t e
  obtain⟨v,e2,r⟩:=sl.qO i t e;exact⟨v,e2,q w H v (.refl w) hr r⟩
 ·exact q.elim
theorem LA (h:PE X e (tC v))(r:∀w:Wd,w.K=G.K->RT w t v):TV G k X e (mC t):=.mk<|λ_=>h.wk λσ H Q h=>by
 obtain⟨w,S,τ,hr,sl,q⟩:=h;exact q w H v (.refl w) hr (r w hr.K)
theorem dQ:RT w (.int i) (.int i):=by unfold RT;rfl
theorem j_:RT w (.str i) (.str i):=by unfold RT;rfl
theorem gW {w:Wd}{i:Bool}:RT w (.bl i) (.bl i):=by unfold RT;rfl
theorem sP:RT w .bu .bu:=by unfold RT;rfl
theorem Zx {i j pos}:TV G k X (.Constant (.int i) j pos) (mC (.int i)):=LA X3 λ_ _=>dQ
theorem agd {i j pos}:TV G k X (.Constant (.bool i) j pos) (mC (.bl i)):=LA aeO λ_ _=>gW
theorem Zy {i j pos}:TV G k X (.Constant (.str i) j pos) (mC (.str i)):=LA X5 λ_ _=>j_
theorem Zz {j pos}:TV G k X (.Constant .none j pos) (mC .bu):=LA X4 λ_ _=>sP
theorem cT (hm:X.mg x=some (.int i tk))(hg:autoParam (Gl X x) zp_0)(hd:autoParam ((x == ("__debug__" : Str))=false) zp_1):TV G k X (.Name x pos) (mC (.int i)):=LA (Pp (v:=.int i) hg hm ⟨_,rfl⟩ hd) λ_ _=>dQ
noncomputable def ai (g:Tr->Tr->Cs->R Tr)(fa fb:Em):Em:=λτ S=>(fa τ S).aE λt1 S1=>(fb τ S1).aE λt2 S2=>g t1 t2 S2
noncomputable def mUn (g:Tr->Cs->R Tr)(fa:Em):Em:=λτ S=>(fa τ S).aE λt1 S1=>g t1 S1
noncomputable def r2 (G:Gx)(g:Tr->Tr->Cs->R Tr):R2:=λx y H Q=>∃w S t1 t2,HR G w S H/\RT w t1 x/\RT w t2 y/\bz RT G w (g t1 t2 S) Q
noncomputable def r1 (G:Gx)(g:Tr->Cs->R Tr):V->Hp->VK->Prop:=λx H Q=>∃w S t1,HR G w S H/\RT w t1 x/\bz RT G w (g t1 S) Q
theorem pK {g:Tr->Tr->Cs->R Tr}{σ:St}{H:Hp}{Q:VK}(h:fO G (ai g fa fb) σ H Q):tOp (r2 G g) (fO G fa) (fO G fb) σ H Q:=by
 obtain⟨w,S,τ,hr,sl,q⟩:=h;refine⟨w,S,τ,hr,sl,(bz.aE q).mono λx H1 bS=>?_⟩
 obtain⟨w1,S1,t1,dh,bO,r1,_,q1⟩:=bS;exact⟨w1,S1,τ,bO,sl.mono dh,(bz.aE q1).mono λy H2 dB=>by obtain⟨w2,S2,t2,fC,dR,r2,_,q2⟩:=dB;exact⟨w2,S2,t1,t2,dR,RT.mono fC _ _ r1,r2,q2⟩⟩
structure ni (G:Gx) (k:Nat) (f:Value->Value->Sem Value) (g:Tr->Tr->Cs->R Tr):Prop where
 jW:∀X:Cx,ju G k X->jV X f (r2 G g)
noncomputable instance {G:Gx}{k:Nat}{f:Value->Value->Sem Value}{g:Tr->Tr->Cs->R Tr}:CoeFun (ni G k f g) (λ_=>∀X:Cx,ju G k X->jV X f (r2 G g)):=⟨ni.jW⟩
theorem yT (ho:ni G k (binaryOp op) g)(ha:TV G k X a fa)(hb:TV G k X b fb):TV G k X (.BinOp a op b pos) (ai g fa fb):=.mk<|λo =>
 (ae3 (ho X o) (ha o) (hb o)).wk λ_ _ _ h=>pK h
theorem age {op:UnaryOp}{g:Tr->Cs->R Tr}(ho:∀X:Cx,ju G k X->UnR X (unaryOp op) (r1 G g))(ha:TV G k X a fa):TV G k X (.UnaryOp op a pos) (mUn g fa):=.mk<|λo =>
 (ae4 (ho X o) (ha o)).wk λσ H Q h=>by
  obtain⟨w,S,τ,hr,sl,q⟩:=h;exact⟨w,S,τ,hr,sl,(bz.aE q).mono λx H1 eZ=>by obtain⟨w1,S1,t1,dh,bO,r1,_,q1⟩:=eZ;exact⟨w1,S1,t1,bO,r1,q1⟩⟩
theorem pL (ho:ni G k (compareOp op) g)(ha:TV G k X a fa)(hb:TV G k X b fb)(hm:behindInMarks op b=false):TV G k X (.Compare a [op] [b] pos) (ai g fa fb):=.mk<|λo =>
 (PU (ho X o) (ha o) (hb o) hm).wk λ_ _ _ h=>pK h
noncomputable def kg (g g':Tr->Tr->Cs->R Tr)(fa fb fc:Em):Em:=λτ S=>(fa τ S).aE λt1 S1=>(fb τ S1).aE λt2 S2=>(g t1 t2 S2).aE λz S3=>match z with
 |.bl true=>(fc τ S3).aE λt3 S4=>g' t2 t3 S4
 |.bl false=>.ok (.bl false) S3
 |_=>.aG
theorem AO {g g':Tr->Tr->Cs->R Tr}{σ:St}{H:Hp}{Q:VK}(h:fO G (kg g g' fa fb fc) σ H Q):C0 (r2 G g) (r2 G g') (fO G fa) (fO G fb) (fO G fc) σ H Q:=by
 obtain⟨w,S,τ,hr,sl,q⟩:=h;refine⟨w,S,τ,hr,sl,(bz.aE q).mono λx H1 iP=>?_⟩
 obtain⟨w1,S1,t1,dh,bO,r1,_,q1⟩:=iP;refine⟨w1,S1,τ,bO,sl.mono dh,(bz.aE q1).mono λy H2 iQ=>?_⟩
 obtain⟨w2,S2,t2,fC,dR,r2,_,q2⟩:=iQ;refine⟨w2,S2,t1,t2,dR,RT.mono fC _ _ r1,r2,(bz.aE q2).mono λz H3 lT=>?_⟩
 obtain⟨w3,S3,t3,lV,pM,r3,_,q3⟩:=lT;split at q3
 ·unfold RT at r3
  subst r3;refine⟨true,rfl,AA ⟨w3,S3,τ,pM,(sl.mono dh).mono (fC.trans lV),(bz.aE q3).mono λu H4 jH=>by obtain⟨w4,S4,t4,LB,JM,r4,_,q4⟩:=jH;exact⟨w4,S4,t2,t4,JM,RT.mono (lV.trans LB) _ _ r2,r4,q4⟩⟩⟩
 ·unfold RT at r3
  subst r3;exact⟨false,rfl,Az (q3 w3 H3 _ (.refl _) pM gW)⟩
 ·exact q3.elim
theorem LC (ho:ni G k (compareOp op) g)(vD:ni G k (compareOp J_) g')(ha:TV G k X a fa)(hb:TV G k X b fb)(hc:TV G k X c fc)(hm:autoParam (lastMarks [op,J_] [b,c]=false) zp_5):
  TV G k X (.Compare a [op,J_] [b,c] pos) (kg g g' fa fb fc):=.mk<|λo=>(J9 (ho X o) (vD X o) (ha o) (hb o) (hc o) hm).wk λ_ _ _ h=>AO h
noncomputable def mB (f:Em):En->Cs->R Bool:=λτ S=>(f τ S).aE λt S1=>match t with|.bl b=>.ok b S1|_=>.aG
theorem rB {f:Em}{σ:St}{H:Hp}{Q:Bool->Hp->Prop}(h:AM G (mB f) σ H Q):fO G f σ H λx H1=>∃c,x = .bl c/\Q c H1:=by
 obtain⟨w,S,τ,hr,sl,q⟩:=h;refine⟨w,S,τ,hr,sl,(bz.aE q).mono λx H1 jK=>?_⟩
 obtain⟨w1,S1,t1,dh,bO,r1,_,q1⟩:=jK;split at q1
 ·unfold RT at r1
  subst r1;exact⟨_,rfl,q1 w1 H1 _ (.refl _) bO rfl⟩
 ·exact q1.elim
theorem ZA (h:TV G k X e f)(he:autoParam (∀rW,isTrue e X.env rW=(do let v <-rW;standAt e.pos;holding [v] (truthy v))) zp_3):CH G k X e (mB f):=.mk<|λo=>(X8 (h o) he).wk λ_ _ _ h=>rB h
theorem kh (ho:ni G k (compareOp op) g)(ha:TV G k X a fa)(hb:TV G k X b fb)(hm:behindInMarks op b=false):CH G k X (.Compare a [op] [b] pos) (mB (ai g fa fb)):=.mk<|λo =>
 (PV (ho X o) (ha o) (hb o) hm).wk λ_ _ _ h=>pK (rB h)
theorem sQ (ho:ni G k (compareOp op) g)(vD:ni G k (compareOp J_) g')(ha:TV G k X a fa)(hb:TV G k X b fb)(hc:TV G k X c fc)(hm:autoParam (lastMarks [op,J_] [b,c]=false) zp_5):
  CH G k X (.Compare a [op,J_] [b,c] pos) (mB (kg g g' fa fb fc)):=.mk<|λo=>(Ka (ho X o) (vD X o) (ha o) (hb o) (hc o) hm).wk λ_ _ _ h=>AO (rB h)
variable {ta tb:En->Cs->R Bool}{cK:List Expr}
noncomputable def lB (ta tb:En->Cs->R Bool):En->Cs->R Bool:=λτ S=>(ta τ S).aE λx S1=>if x=true then tb τ S1 else .ok false S1
noncomputable def JN (ta tb:En->Cs->R Bool):En->Cs->R Bool:=λτ S=>(ta τ S).aE λx S1=>if x=true then .ok true S1 else tb τ S1
noncomputable def yU (ta:En->Cs->R Bool):En->Cs->R Bool:=λτ S=>(ta τ S).aE λx S1=>.ok (!x) S1
theorem ZC (ha:CH G k X a ta):CH G k X (.UnaryOp .Not a pos) (yU ta):=.mk<|λo=>(Yc (ha o)).wk λσ H Q h=>by
 obtain⟨w,S,τ,hr,sl,q⟩:=h;refine⟨w,S,τ,hr,sl,(bz.aE q).mono λx H1 LD=>?_⟩
 obtain⟨w1,S1,t1,dh,bO,r1,_,q1⟩:=LD;subst r1;exact q1 w1 H1 _ (.refl _) bO rfl
theorem QX (ha:CH G k X a ta):Lx G k X (.BoolOp .And [a] pos) ta:=.mk<|λo=>Pq (ha o)
theorem ZD (ha:CH G k X a ta):Lx G k X (.BoolOp .Or [a] pos) ta:=.mk<|λo=>X_ (ha o)
theorem ZE (ha:CH G k X a ta)(hb:Lx G k X (.BoolOp .And (b::cK) pos) tb):Lx G k X (.BoolOp .And (a::b::cK) pos) (lB ta tb):=.mk<|λo=>(Yb (ha o) (hb o)).wk λσ H Q h=>by
 obtain⟨w,S,τ,hr,sl,q⟩:=h;refine⟨w,S,τ,hr,sl,(bz.aE q).mono λx H1 oK=>?_⟩
 obtain⟨w1,S1,t1,dh,bO,r1,_,q1⟩:=oK;subst r1;cases t1 with
 |true=>rw[if_pos rfl] at q1;exact AA ⟨w1,S1,τ,bO,sl.mono dh,q1⟩
 |false=>rw[if_neg zak] at q1;exact Az (q1 w1 H1 _ (.refl _) bO rfl)
theorem agf (ha:CH G k X a ta)(hb:Lx G k X (.BoolOp .Or (b::cK) pos) tb):Lx G k X (.BoolOp .Or (a::b::cK) pos) (JN ta tb):=.mk<|λo=>(aeP (ha o) (hb o)).wk λσ H Q h=>by
 obtain⟨w,S,τ,hr,sl,q⟩:=h;refine⟨w,S,τ,hr,sl,(bz.aE q).mono λx H1 ki=>?_⟩
 obtain⟨w1,S1,t1,dh,bO,r1,_,q1⟩:=ki;subst r1;cases t1 with
 |true=>rw[if_pos rfl] at q1;exact AA (q1 w1 H1 _ (.refl _) bO rfl)
 |false=>rw[if_neg zak] at q1;exact Az ⟨w1,S1,τ,bO,sl.mono dh,q1⟩
theorem Lx.t (h:Lx G k X e ta):CH G k X e ta:=.mk<|λo=>(h o).pt
noncomputable def Ie (fa fb:Em):Em:=λτ S=>(fa τ S).aE λt S1=>match t with|.bl true=>fb τ S1|.bl false=>.ok (.bl false) S1|_=>.aG
noncomputable def mOr (fa fb:Em):Em:=λτ S=>(fa τ S).aE λt S1=>match t with|.bl true=>.ok (.bl true) S1|.bl false=>fb τ S1|_=>.aG
noncomputable def QY (fa:Em):Em:=λτ S=>(fa τ S).aE λt S1=>match t with|.bl b=>.ok (.bl (!b)) S1|_=>.aG
noncomputable def CI (ta:En->Cs->R Bool)(fa fb:Em):Em:=λτ S=>(ta τ S).aE λx S1=>if x=true then fa τ S1 else fb τ S1
theorem ZF {op}(h:TV G k X a fa):TV G k X (.BoolOp op [a] pos) fa:=.mk<|λo=>Yd (h o)
theorem ZG (ha:TV G k X a fa)(hb:TV G k X (.BoolOp .And (b::cK) pos) fb):TV G k X (.BoolOp .And (a::b::cK) pos) (Ie fa fb):=.mk<|λo=>(Ye (ha o) (hb o)).wk λσ H Q h=>by
 obtain⟨w,S,τ,hr,sl,q⟩:=h;refine⟨w,S,τ,hr,sl,(bz.aE q).mono λx H1 nF=>?_⟩
 obtain⟨w1,S1,t1,dh,bO,r1,_,q1⟩:=nF;split at q1
 ·unfold RT at r1;subst r1;exact⟨true,rfl,AA ⟨w1,S1,τ,bO,sl.mono dh,q1⟩⟩
 ·unfold RT at r1;subst r1;exact⟨false,rfl,Az (q1 w1 H1 _ (.refl _) bO gW)⟩
 ·exact q1.elim
theorem agg (ha:TV G k X a fa)(hb:TV G k X (.BoolOp .Or (b::cK) pos) fb):TV G k X (.BoolOp .Or (a::b::cK) pos) (mOr fa fb):=.mk<|λo=>(aeS (ha o) (hb o)).wk λσ H Q h=>by
 obtain⟨w,S,τ,hr,sl,q⟩:=h;refine⟨w,S,τ,hr,sl,(bz.aE q).mono λx H1 iS=>?_⟩
 obtain⟨w1,S1,t1,dh,bO,r1,_,q1⟩:=iS;split at q1
 ·unfold RT at r1;subst r1;exact⟨true,rfl,AA (q1 w1 H1 _ (.refl _) bO gW)⟩
 ·unfold RT at r1;subst r1;exact⟨false,rfl,Az ⟨w1,S1,τ,bO,sl.mono dh,q1⟩⟩
 ·exact q1.elim
theorem LF (ha:TV G k X a fa):TV G k X (.UnaryOp .Not a pos) (QY fa):=.mk<|λo=>(Yg (ha o)).wk λσ H Q h=>by
 obtain⟨w,S,τ,hr,sl,q⟩:=h;refine⟨w,S,τ,hr,sl,(bz.aE q).mono λx H1 nG=>?_⟩
 obtain⟨w1,S1,t1,dh,bO,r1,_,q1⟩:=nG;split at q1
 ·unfold RT at r1;subst r1;exact⟨_,rfl,q1 w1 H1 _ (.refl _) bO gW⟩
 ·exact q1.elim
theorem ZH (hc:CH G k X c ta)(ha:TV G k X a fa)(hb:TV G k X b fb):TV G k X (.IfExp c a b pos) (CI ta fa fb):=.mk<|λo=>(J1 (hc o) (ha o) (hb o)).wk λσ H Q h=>by
 obtain⟨w,S,τ,hr,sl,q⟩:=h;refine⟨w,S,τ,hr,sl,(bz.aE q).mono λx H1 sR=>?_⟩
 obtain⟨w1,S1,t1,dh,bO,r1,_,q1⟩:=sR;subst r1;cases t1 with
 |true=>rw[if_pos rfl] at q1;exact AA ⟨w1,S1,τ,bO,sl.mono dh,q1⟩
 |false=>rw[if_neg zak] at q1;exact Az ⟨w1,S1,τ,bO,sl.mono dh,q1⟩
noncomputable def ak:En->Cs->R (List Tr):=λ_ S=>.ok [] S
noncomputable def af (f:Em)(r:En->Cs->R (List Tr)):En->Cs->R (List Tr):=λτ S=>(f τ S).aE λt S1=>(r τ S1).aE λts S2=>.ok (t::ts) S2
theorem ZI:vO G k X [] ak:=.mk<|λ_=>Kh.wk λσ H Q h=>by
 obtain⟨w,S,τ,hr,sl,q⟩:=h;exact q w H [] (.refl w) hr .nil
theorem QZ (ha:TV G k X e f)(hr:vO G k X es fr)(hs:autoParam (dP e=false) zp_0):vO G k X (e::es) (af f fr):=.mk<|λo=>(yz (ha o) (hr o) (eO hs)).wk λσ H Q h=>by
 obtain⟨w,S,τ,hr,sl,q⟩:=h;refine⟨w,S,τ,hr,sl,(bz.aE q).mono λx H1 sS=>?_⟩
 obtain⟨w1,S1,t1,dh,bO,r1,_,q1⟩:=sS;refine⟨w1,S1,τ,bO,sl.mono dh,(bz.aE q1).mono λxs H2 Dv=>?_⟩
 obtain⟨w2,S2,ts,fC,dR,r2,_,q2⟩:=Dv;exact q2 w2 H2 _ (.refl _) dR (.cons (RT.mono fC _ _ r1) r2)
noncomputable def c7 (fr:En->Cs->R (List Tr)):Em:=λτ S=>(fr τ S).aE λts S1=>if ts.length<=sizeLine then .ok (.tp ts) S1 else .aG
noncomputable def kj (fr:En->Cs->R (List Tr)):Em:=λτ S=>(fr τ S).aE λts S1=>if ts.length<=sizeLine then .ok (.ls ts) S1 else .aG
noncomputable def nj (fr:En->Cs->R (List Tr)):Em:=λτ S=>(fr τ S).aE λts S1=>if ts.length<=sizeLine then .ok (.hd S1.length) (S1++[.bM ts]) else .aG
theorem HR.ZJ {w:Wd}{S:Cs}{H:Hp}{ts:List Tr}{xs:List V}(hr:HR G w S H)(r:bK w ts xs){Q:VK}{S':Cs}(hS:S'=S)(q:bz RT G w (.ok (.tp ts) S') Q):∀p,H p=none->Q (.ref p) (bF H p (.gS xs)):=λp hp=>by
 subst hS;obtain⟨h2,le⟩:=hr.lay hp (.gS xs)
 refine q _ _ _ le h2 ?_
 unfold RT;exact⟨p,xs,rfl,az,bK.mono le _ _ r⟩
theorem HR.jv {w:Wd}{S:Cs}{H:Hp}{ts:List Tr}{xs:List V}(hr:HR G w S H)(r:bK w ts xs){Q:VK}{S':Cs}(hS:S'=S)(q:bz RT G w (.ok (.ls ts) S') Q):∀p,H p=none->Q (.ref p) (bF H p (.bM xs)):=λp hp=>by
 subst hS;obtain⟨h2,le⟩:=hr.lay hp (.bM xs)
 refine q _ _ _ le h2 ?_
 unfold RT;exact⟨p,xs,rfl,az,bK.mono le _ _ r⟩
theorem HR.agh {w:Wd}{S:Cs}{H:Hp}{ts:List Tr}{xs:List V}(hr:HR G w S H)(r:bK w ts xs){Q:VK}{S':Cs}{n:Nat}(hS:S'=S++[.bM ts])(hn:n=S.length)(q:bz RT G w (.ok (.hd n) S') Q):∀p,H p=none->Q (.ref p) (bF H p (.bM xs)):=λp hp=>by
 subst hS hn;obtain⟨h2,le⟩:=hr.Ib (c:=.bM ts) hp (o:=.bM xs) rfl ⟨xs,az,bK.mono (w.sN p) _ _ r⟩
 refine q _ _ _ le h2 ?_
 unfold RT;refine⟨by rw[<-hr.n];exact zbj _,?_⟩
 show V.ref p=V.ref (if S.length=w.n then p else w.ρ S.length)
 rw[if_pos hr.n.symm]
theorem ZK {x1}(h:vO G k X es fr):TV G k X (.Tuple es x1 pos) (c7 fr):=.mk<|λo=>(YE (h o)).wk λσ H Q h=>by
 obtain⟨w,S,τ,hr,sl,q⟩:=h;refine⟨w,S,τ,hr,sl,(bz.aE q).mono λxs H1 sU=>?_⟩
 obtain⟨w1,S1,ts,dh,bO,r1,_,q1⟩:=sU;split at q1
 ·exact⟨by rw[r1.len];assumption,bO.ZJ r1 rfl q1⟩
 ·exact q1.elim
theorem ZL (h:vO G k X es fr):TV G k X (.List es pos) (kj fr):=.mk<|λo=>(Kl (h o)).wk λσ H Q h=>by
 obtain⟨w,S,τ,hr,sl,q⟩:=h;refine⟨w,S,τ,hr,sl,(bz.aE q).mono λxs H1 Dw=>?_⟩
 obtain⟨w1,S1,ts,dh,bO,r1,_,q1⟩:=Dw;split at q1
 ·exact⟨by rw[r1.len];assumption,bO.jv r1 rfl q1⟩
 ·exact q1.elim
theorem Q0 (h:vO G k X es fr):TV G k X (.List es pos) (nj fr):=.mk<|λo=>(Kl (h o)).wk λσ H Q h=>by
 obtain⟨w,S,τ,hr,sl,q⟩:=h;refine⟨w,S,τ,hr,sl,(bz.aE q).mono λxs H1 ZM=>?_⟩
 obtain⟨w1,S1,ts,dh,bO,r1,_,q1⟩:=ZM;split at q1
 ·exact⟨by rw[r1.len];assumption,bO.agh r1 rfl rfl q1⟩
 ·exact q1.elim
end
noncomputable def cD (S:Cs)(n:Nat):Option (List Tr):=match S[n]? with|some (.bM l)=>some l|_=>none
noncomputable def sV (S:Cs)(n:Nat):Option (List (dJ×Tr)):=match S[n]? with|some (.jt l)=>some l|_=>none
noncomputable def iy (S:Cs)(n:Nat):Option (Str×List (Str×Tr)):=match S[n]? with|some (.d_ c l)=>some (c,l)|_=>none
theorem c9 (h:cD S n=some l):S[n]? = some (.bM l):=by
 unfold cD at h;split at h
 ·cases h;assumption
 ·cases h
theorem gK (h:sV S n=some l):S[n]? = some (.jt l):=by
 unfold sV at h;split at h
 ·cases h;assumption
 ·cases h
theorem e9 (h:iy S n=some (c,l)):S[n]? = some (.d_ c l):=by
 unfold iy at h;split at h
 ·cases h;assumption
 ·cases h
noncomputable def AQ (S:Cs):Tr->Option (List Tr)
 |.ls l=>some l
 |.hd n=>cD S n
 |_=>none
noncomputable def Fj (S:Cs):Tr->Option (List Tr)
 |.ls l=>some l
 |.kl l=>some l
 |.hd n=>cD S n
 |_=>none
noncomputable def UB:Tr->Option (List Tr)
 |.tp l=>some l
 |.kt l=>some l
 |_=>none
noncomputable def AR (S:Cs):Tr->Option (List Tr)
 |.tp l=>some l
 |.kt l=>some l
 |.ls l=>some l
 |.kl l=>some l
 |.hd n=>cD S n
 |_=>none
noncomputable def Pc (S:Cs):Tr->Option (List (dJ×Tr))
 |.hd n=>sV S n
 |_=>none
theorem RT.c_ (r:RT w (.hd n) v):n<w.n/\v = .ref (w.ρ n):=by unfold RT at r;exact r
theorem lW (hr:HR G w S H)(r:RT w t v)(e:AQ S t=some l):∃a xs,v = .ref a/\H a=some (.bM xs)/\bK w l xs:=by
 cases t with
 |ls m =>
  cases e;unfold RT at r;obtain⟨a,xs,rfl,h,r⟩:=r;exact⟨a,xs,rfl,hr.sub _ _ h,r⟩
 |hd n =>
  obtain⟨xs,h1,h2⟩:=hr.cell n _ (c9 e)
  exact⟨_,xs,r.c_.2,h1,h2⟩
 |_=>cases e
theorem lY (hr:HR G w S H)(r:RT w t v)(e:Fj S t=some l):∃a xs,v = .ref a/\iO G.K H a xs/\bK w l xs:=by
 cases t with
 |ls m =>
  cases e;unfold RT at r;obtain⟨a,xs,rfl,h,r⟩:=r;exact⟨a,xs,rfl,iO.of (hr.sub _ _ h),r⟩
 |kl m =>
  cases e;unfold RT at r;obtain⟨a,xs,rfl,h,r⟩:=r;exact⟨a,xs,rfl,hr.sqL h,r⟩
 |hd n =>
  obtain⟨xs,h1,h2⟩:=hr.cell n _ (c9 e)
  exact⟨_,xs,r.c_.2,iO.of h1,h2⟩
 |_=>cases e
theorem lZ (hr:HR G w S H)(r:RT w t v)(e:UB t=some l):∃a xs,v = .ref a/\nA G.K H a xs/\bK w l xs:=by
 cases t with
 |tp m =>
  cases e;unfold RT at r;obtain⟨a,xs,rfl,h,r⟩:=r;exact⟨a,xs,rfl,nA.of (hr.sub _ _ h),r⟩
 |kt m =>
  cases e;unfold RT at r;obtain⟨a,xs,rfl,h,r⟩:=r;exact⟨a,xs,rfl,hr.sqT h,r⟩
 |_=>cases e
theorem yV (hr:HR G w S H)(r:RT w t v)(e:AR S t=some l):∃a xs,v = .ref a/\(iO G.K H a xs\/nA G.K H a xs)/\bK w l xs:=by
 cases t with
 |ls m=>obtain⟨a,xs,h1,h2,h3⟩:=lY hr r (l:=l) (e);exact⟨a,xs,h1,.inl h2,h3⟩
 |kl m=>obtain⟨a,xs,h1,h2,h3⟩:=lY hr r (l:=l) (e);exact⟨a,xs,h1,.inl h2,h3⟩
 |hd n=>obtain⟨a,xs,h1,h2,h3⟩:=lY hr r (l:=l) (e);exact⟨a,xs,h1,.inl h2,h3⟩
 |tp m=>obtain⟨a,xs,h1,h2,h3⟩:=lZ hr r (l:=l) (e);exact⟨a,xs,h1,.inr h2,h3⟩
 |kt m=>obtain⟨a,xs,h1,h2,h3⟩:=lZ hr r (l:=l) (e);exact⟨a,xs,h1,.inr h2,h3⟩
 |_=>cases e
theorem yW (hr:HR G w S H)(r:RT w t v)(e:Pc S t=some m):∃n aP,t = .hd n/\S[n]? = some (.jt m)/\v = .ref (w.ρ n)/\H (w.ρ n)=some (.dK aP)/\RK w m aP:=by
 cases t with
 |hd n =>
  obtain⟨xs,h1,h2⟩:=hr.cell n _ (gK e)
  exact⟨n,xs,rfl,gK e,r.c_.2,h1,h2⟩
 |_=>cases e
theorem bK.ig (h:bK w l xs)(e:L2.ig l i=some t):∃v,L2.ig xs i=some v/\RT w t v:=by
 unfold L2.ig at e ⊢
 rw[h.len];cases q:Aa l.length i with
 |none=>rw[q] at e;cases e
 |some j=>rw[q] at e;exact h.get e
noncomputable def cL:Tr->Tr->Cs->R Tr:=λt1 t2 S=>match t1,t2 with
 |.int i,.int j=>.ok (.int (i+j)) S
 |.str a,.str b=>if a.length+b.length<=sizeLine then .ok (.str (a++b)) S else .aG
 |.tp a,.tp b=>if a.isEmpty=false/\a.length+b.length<=sizeLine then .ok (.tp (a++b)) S else .aG
 |t1,t2=>match AQ S t1,AQ S t2 with
  |some a,some b=>if a.length+b.length<=sizeLine then .ok (.ls (a++b)) S else .aG
  |_,_=>.aG
noncomputable def l6:Tr->Tr->Cs->R Tr:=λt1 t2 S=>match AQ S t1,AQ S t2 with
  |some a,some b=>if a.length+b.length<=sizeLine then .ok (.hd S.length) (S++[.bM (a++b)]) else .aG
  |_,_=>.aG
noncomputable def gI (g:Int->Int->Tr):Tr->Tr->Cs->R Tr:=λt1 t2 S=>match t1,t2 with
 |.int i,.int j=>.ok (g i j) S
 |_,_=>.aG
noncomputable def Ab (c:Int->Int->Bool)(g:Int->Int->Tr):Tr->Tr->Cs->R Tr:=λt1 t2 S=>match t1,t2 with
 |.int i,.int j=>if c i j=true then .ok (g i j) S else .aG
 |_,_=>.aG
noncomputable abbrev dG:=gI λi j=>.int (i - j)
noncomputable abbrev Q2:=Ab (λ_ j=>decide (0<j/\j<1073741824)) λi j=>.int (i / j)
noncomputable abbrev nH:=Ab (λ_ j=>decide (0<j)) λi j=>.int (i % j)
noncomputable def nI:Tr->Tr->Cs->R Tr:=λt1 t2 S=>match t1,t2 with
 |.int i,.int j=>vN ((-(2 ^ 64)<i/\i<2 ^ 64)\/(-(2 ^ 64)<j/\j<2 ^ 64)) (.ok (.int (i * j)) S) .aG
 |.str a,.int n=>if 0<=n/\n<1000000/\a.length * n.toNat<=1000000 then .ok (.str (sE a n.toNat)) S else .aG
 |_,_=>.aG
noncomputable abbrev sW:=gI λi j=>.bl (decide (i<j))
noncomputable abbrev UC:=gI λi j=>.bl (decide (i<=j))
noncomputable abbrev wI:=gI λi j=>.bl (decide (j<i))
noncomputable abbrev gGe:=gI λi j=>.bl (decide (j<=i))
noncomputable def Dy:Tr->Cs->R Tr:=λt S=>match t with|.int i=>.ok (.int (-i)) S|_=>.aG
theorem bh (r:RT w (.int i) v):v = .int i:=by unfold RT at r;exact r
theorem cE (r:RT w (.str i) v):v = .str i:=by unfold RT at r;exact r
theorem pN (r:RT w (.bl i) v):v = .bl i:=by unfold RT at r;exact r
theorem ko (r:RT w .bu v):v = .bu:=by unfold RT at r;exact r
theorem AS (h:∀X:Cx,ju G k X->jV X f (PF gv))(rg:∀(w:Wd) i j,RT w (g i j) (gv i j)):ni G k f (gI g):=.mk<|λX o ah s σ H x y v u Q I rx ry bS=>by
 obtain⟨w,S,t1,t2,hr,r1,r2,q⟩:=bS;unfold gI at q;split at q
 ·exact h X o ah s σ H x y v u Q I rx ry ⟨_,_,bh r1,bh r2,q w H _ (.refl w) hr (rg _ _ _)⟩
 ·exact q.elim
theorem LG (h:∀X:Cx,ju G k X->jV X f (rI C gv))(hc:∀i j,c i j=true->C i j)(rg:∀(w:Wd) i j,RT w (g i j) (gv i j)):ni G k f (Ab c g):=.mk<|λX o ah s σ H x y v u Q I rx ry dB=>by
 obtain⟨w,S,t1,t2,hr,r1,r2,q⟩:=dB;unfold Ab at q;split at q
 ·split at q
  ·exact h X o ah s σ H x y v u Q I rx ry ⟨_,_,bh r1,bh r2,hc _ _ (by assumption),q w H _ (.refl w) hr (rg _ _ _)⟩
  ·exact q.elim
 ·exact q.elim
theorem agj:ni G k (binaryOp .Sub) dG:=AS (λX _=>Yu) λ_ _ _=>dQ
theorem agk:ni G k (binaryOp .FloorDiv) Q2:=LG (λX _=>PM) (λi j h=>(of_decide_eq_true h:0<j/\j<1073741824)) λ_ _ _=>dQ
theorem agl:ni G k (binaryOp .Mod) nH:=LG (λX _=>Yw) (λi j h=>of_decide_eq_true h) λ_ _ _=>dQ
theorem Ig:ni G k (compareOp .Lt) sW:=AS (λX _=>ae8) λ_ _ _=>gW
theorem Ih:ni G k (compareOp .LtE) UC:=AS (λX _=>ae9) λ_ _ _=>gW
theorem agm:ni G k (compareOp .Gt) wI:=AS (λX _=>afa) λ_ _ _=>gW
theorem agn:ni G k (compareOp .GtE) gGe:=AS (λX _=>afb) λ_ _ _=>gW
theorem ago:ni G k (binaryOp .Mult) nI:=.mk<|λX o ah s σ H x y v u Q I rx ry eZ=>by
 obtain⟨w,S,t1,t2,hr,r1,r2,q⟩:=eZ;unfold nI at q;split at q
 ·unfold vN at q
  split at q
  ·exact Yv ah s σ H x y v u Q I rx ry ⟨_,_,bh r1,bh r2,(by assumption),q w H _ (.refl w) hr dQ⟩
  ·exact q.elim
 ·split at q
  ·rename_i h
   exact Di ah s σ H x y v u Q I rx ry ⟨_,_,cE r1,bh r2,h.1,h.2.1,h.2.2,q w H _ (.refl w) hr j_⟩
  ·exact q.elim
 ·exact q.elim
theorem agp:ni G k (binaryOp .Add) cL:=.mk<|λX o ah s σ H x y v u Q I rx ry iP=>by
 obtain⟨w,S,t1,t2,hr,r1,r2,q⟩:=iP;unfold cL at q;split at q
 ·exact Yt ah s σ H x y v u Q I rx ry ⟨_,_,bh r1,bh r2,q w H _ (.refl w) hr dQ⟩
 ·split at q
  ·exact C1 ah s σ H x y v u Q I rx ry ⟨_,_,cE r1,cE r2,(by assumption),q w H _ (.refl w) hr j_⟩
  ·exact q.elim
 ·split at q
  ·rename_i a b h
   obtain⟨p,xs,e1,s1,R1⟩:=lZ hr r1 (l:=a) rfl
   obtain⟨p2,ys,e2,s2,R2⟩:=lZ hr r2 (l:=b) rfl
   rw[<-o.K] at s1 s2;refine Qj ah s σ H x y v u Q I rx ry ⟨p,p2,xs,ys,e1,e2,s1,s2,?_,by rw[R1.len,R2.len];exact h.2,λz=>?_,λz=>hr.ZJ (R1.rq R2) rfl q⟩
   ·intro z
    have:=R1.len
    rw[z] at this;have h1:=h.1;cases a with
    |nil=>simp at h1
    |cons _ _=>simp at this
   ·have hb:b=[]:=by
     have:=R2.len
     rw[z] at this;cases b with
     |nil=>rfl
     |cons _ _=>simp at this
    subst hb;rw[zaz] at q;rw[<-e1];exact q w H _ (.refl w) hr r1
  ·exact q.elim
 ·split at q
  ·rename_i a b ea eb
   split at q
   ·obtain⟨p,xs,e1,s1,R1⟩:=lW hr r1 ea
    obtain⟨p2,ys,e2,s2,R2⟩:=lW hr r2 eb;exact KN ah s σ H x y v u Q I rx ry ⟨p,p2,xs,ys,e1,e2,s1,s2,by rw[R1.len,R2.len];assumption,hr.jv (R1.rq R2) rfl q⟩
   ·exact q.elim
  ·exact q.elim
theorem Dz:ni G k (binaryOp .Add) l6:=.mk<|λX o ah s σ H x y v u Q I rx ry iQ=>by
 obtain⟨w,S,t1,t2,hr,r1,r2,q⟩:=iQ;unfold l6 at q;split at q
 ·rename_i a b ea eb
  split at q
  ·obtain⟨p,xs,e1,s1,R1⟩:=lW hr r1 ea
   obtain⟨p2,ys,e2,s2,R2⟩:=lW hr r2 eb;exact KN ah s σ H x y v u Q I rx ry ⟨p,p2,xs,ys,e1,e2,s1,s2,by rw[R1.len,R2.len];assumption,hr.agh (R1.rq R2) rfl rfl q⟩
  ·exact q.elim
 ·exact q.elim
theorem agq:∀X:Cx,ju G k X->UnR X (unaryOp .USub) (r1 G Dy):=λX o ah s σ H x v Q I rx lT=>by
 obtain⟨w,S,t1,hr,r1,q⟩:=lT;unfold Dy at q;split at q
 ·exact Yx ah s σ H x v Q I rx ⟨_,bh r1,q w H _ (.refl w) hr dQ⟩
 ·exact q.elim
noncomputable def LH:Tr->Tr->Option Bool
 |.int i,.int j=>some (decide (i=j))
 |.str i,.str j=>some (decide (i=j))
 |.bl i,.bl j=>some (i == j)
 |.bu,.bu=>some true
 |.bu,.int _=>some false
 |.int _,.bu=>some false
 |.bu,.bl _=>some false
 |.bl _,.bu=>some false
 |.bu,.str _=>some false
 |.str _,.bu=>some false
 |.int _,.str _=>some false
 |.str _,.int _=>some false
 |.bl _,.str _=>some false
 |.str _,.bl _=>some false
 |_,_=>none
mutual
noncomputable def Tr.mJ:Tr->Bool
 |.tp l=>Tr.lC l
 |.ls l=>Tr.lC l
 |.kt _=>false
 |.kl _=>false
 |.hd _=>false
 |_=>true
noncomputable def Tr.lC:List Tr->Bool
 |[]=>true
 |t::l=>Tr.mJ t && Tr.lC l
end
mutual
noncomputable def Tr.dp:Tr->Nat
 |.tp l=>Tr.qU l+1
 |.ls l=>Tr.qU l+1
 |_=>0
noncomputable def Tr.qU:List Tr->Nat
 |[]=>0
 |t::l=>max (Tr.dp t) (Tr.qU l)
end
mutual
noncomputable def Tr.dv:Tr->DV
 |.tp l=>.tp (Tr.JO l)
 |.ls l=>.ls (Tr.JO l)
 |.int i=>.fl (.int i)
 |.bl i=>.fl (.bl i)
 |.str i=>.fl (.str i)
 |_=>.fl .bu
noncomputable def Tr.JO:List Tr->List DV
 |[]=>[]
 |t::l=>Tr.dv t::Tr.JO l
end
mutual
theorem Tr.yX:∀t:Tr,DV.wD t.dv=t.dp
 |.tp l=>by unfold Tr.dv Tr.dp DV.wD;rw[Tr.yY l]
 |.ls l=>by unfold Tr.dv Tr.dp DV.wD;rw[Tr.yY l]
 |.int _=>by unfold Tr.dv Tr.dp DV.wD;rfl
 |.bl _=>by unfold Tr.dv Tr.dp DV.wD;rfl
 |.str _=>by unfold Tr.dv Tr.dp DV.wD;rfl
 |.bu=>by unfold Tr.dv Tr.dp DV.wD;rfl
 |.kt _=>by unfold Tr.dv Tr.dp DV.wD;rfl
 |.kl _=>by unfold Tr.dv Tr.dp DV.wD;rfl
 |.hd _=>by unfold Tr.dv Tr.dp DV.wD;rfl
theorem Tr.yY:∀l:List Tr,DV.AI (Tr.JO l)=Tr.qU l
 |[]=>by unfold Tr.JO Tr.qU DV.AI;rfl
 |t::l=>by unfold Tr.JO Tr.qU DV.AI;rw[Tr.yX t,Tr.yY l]
end
noncomputable def vw:Nat->Cs->Tr->Tr
 |n+1,S,.hd i=>(match cD S i with|some l=>.ls (l.map (vw n S))|none=>.hd i)
 |n+1,S,.ls l=>.ls (l.map (vw n S))
 |n+1,S,.kl l=>.ls (l.map (vw n S))
 |n+1,S,.tp l=>.tp (l.map (vw n S))
 |n+1,S,.kt l=>.tp (l.map (vw n S))
 |_,_,t=>t
section
variable {G:Gx}{w:Wd}{S:Cs}{H:Hp}
theorem jL (hg:∀t v,RT w t v->(g t).mJ=true->gV G.K H (g t).dv v):∀{l:List Tr} {xs:List V},bK w l xs->Tr.lC (l.map g)=true->jI G.K H (Tr.JO (l.map g)) xs
 |[],xs,h,_=>by rw[h.cy];unfold List.map Tr.JO jI;rfl
 |t::l,xs,h,n=>by
  obtain⟨x,r,rfl,h1,h2⟩:=h.bD;simp only[zas] at n ⊢
  unfold Tr.lC at n;unfold Tr.JO jI;have n:=zbf.mp n;exact⟨x,r,rfl,hg t x h1 n.1,jL hg h2 n.2⟩
mutual
theorem jM (hr:HR G w S H):∀(t:Tr) (v:V),RT w t v->t.mJ=true->gV G.K H t.dv v
 |.tp l,v,r,n=>by
  unfold RT at r;unfold Tr.mJ at n;unfold Tr.dv gV
  obtain⟨a,xs,e,h,r⟩:=r;exact⟨a,xs,e,nA.of (hr.sub _ _ h),pO hr l xs r n⟩
 |.ls l,v,r,n=>by
  unfold RT at r;unfold Tr.mJ at n;unfold Tr.dv gV
  obtain⟨a,xs,e,h,r⟩:=r;exact⟨a,xs,e,iO.of (hr.sub _ _ h),pO hr l xs r n⟩
 |.int _,v,r,n=>by unfold Tr.dv gV;exact⟨bh r,rfl⟩
 |.bl _,v,r,n=>by unfold Tr.dv gV;exact⟨pN r,rfl⟩
 |.str _,v,r,n=>by unfold Tr.dv gV;exact⟨cE r,rfl⟩
 |.bu,v,r,n=>by unfold Tr.dv gV;exact⟨ko r,rfl⟩
 |.kt _,v,r,n=>by unfold Tr.mJ at n;cases n
 |.kl _,v,r,n=>by unfold Tr.mJ at n;cases n
 |.hd _,v,r,n=>by unfold Tr.mJ at n;cases n
theorem pO (hr:HR G w S H):∀(l:List Tr) (xs:List V),bK w l xs->Tr.lC l=true->jI G.K H (Tr.JO l) xs
 |[],xs,r,n=>by unfold Tr.JO jI;exact r.cy
 |t::l,xs,r,n=>by
  obtain⟨x,r',rfl,h1,h2⟩:=r.bD;unfold Tr.lC at n;unfold Tr.JO jI;have n:=zbf.mp n;exact⟨x,r',rfl,jM hr t x h1 n.1,pO hr l r' h2 n.2⟩
end
theorem kr (hr:HR G w S H):∀(n:Nat) (t:Tr) (v:V),RT w t v->(vw n S t).mJ=true->gV G.K H (vw n S t).dv v
 |0,t,v,r,n=>by unfold vw at n ⊢;exact jM hr t v r n
 |m+1,t,v,r,n=>by
  cases t with
  |hd i =>
   unfold vw at n ⊢
   split at n
   ·rename_i l e
    unfold Tr.mJ at n;obtain⟨xs,h1,h2⟩:=hr.cell i _ (c9 e)
    rw[r.c_.2];unfold Tr.dv gV;exact⟨_,xs,rfl,iO.of h1,jL (kr hr m) h2 n⟩
   ·unfold Tr.mJ at n;cases n
  |ls l =>
   unfold vw at n ⊢
   unfold Tr.mJ at n;unfold RT at r;obtain⟨a,xs,e,h,r⟩:=r;unfold Tr.dv gV;exact⟨a,xs,e,iO.of (hr.sub _ _ h),jL (kr hr m) r n⟩
  |kl l =>
   unfold vw at n ⊢
   unfold Tr.mJ at n;unfold RT at r;obtain⟨a,xs,e,h,r⟩:=r;unfold Tr.dv gV;exact⟨a,xs,e,hr.sqL h,jL (kr hr m) r n⟩
  |tp l =>
   unfold vw at n ⊢
   unfold Tr.mJ at n;unfold RT at r;obtain⟨a,xs,e,h,r⟩:=r;unfold Tr.dv gV;exact⟨a,xs,e,nA.of (hr.sub _ _ h),jL (kr hr m) r n⟩
  |kt l =>
   unfold vw at n ⊢
   unfold Tr.mJ at n;unfold RT at r;obtain⟨a,xs,e,h,r⟩:=r;unfold Tr.dv gV;exact⟨a,xs,e,hr.sqT h,jL (kr hr m) r n⟩
  |bu=>unfold vw at n ⊢;exact jM hr _ v r n
  |int=>unfold vw at n ⊢;exact jM hr _ v r n
  |bl=>unfold vw at n ⊢;exact jM hr _ v r n
  |str=>unfold vw at n ⊢;exact jM hr _ v r n
end
open Classical in
noncomputable def cX (neg:Bool):Tr->Tr->Cs->R Tr:=λt1 t2 S=>match LH t1 t2 with
 |some b=>.ok (.bl (if neg then !b else b)) S
 |none=>if vw 6 S t1=vw 6 S t2/\(vw 6 S t1).mJ=true/\(vw 6 S t1).dp<=50/\(vw 6 S t1).dp≠0 then .ok (.bl (!neg)) S else .aG
theorem Q3 (h:LH t1 t2=some b)(r1:RT w t1 x)(r2:RT w t2 y):Yy x y=true/\decide (x=y)=b:=by
 unfold LH at h;split at h<;>(first | (cases h;done)|skip)<;>(unfold RT at r1 r2;subst r1;subst r2;cases h;first|exact⟨rfl,CY⟩|exact⟨rfl,by simp⟩|exact⟨rfl,by rw[zbh];simp⟩)
theorem LI:ni G k (compareOp (if neg then .NotEq else .Eq)) (cX neg):=.mk<|λX o ah s σ H x y v u Q I rx ry jH=>by
 obtain⟨w,S,t1,t2,hr,r1,r2,q⟩:=jH;unfold cX at q;split at q
 ·rename_i b e
  obtain⟨h1,h2⟩:=Q3 e r1 r2;have q:=q w H _ (.refl w) hr gW
  cases neg with
  |true=>exact ae7 ah s σ H x y v u Q I rx ry ⟨h1,by rw[h2];exact q⟩
  |false=>exact ae6 ah s σ H x y v u Q I rx ry ⟨h1,by rw[h2];exact q⟩
 ·split at q
  ·rename_i h
   obtain⟨e1,e2,e3,e4⟩:=h;have d1:=kr hr 6 t1 x r1 e2;have d2:=kr hr 6 t2 y r2 (by rw[<-e1];exact e2)
   rw[<-e1] at d2;rw[<-o.K] at d1 d2;have q:=q w H _ (.refl w) hr gW
   have hn:∀z,(vw 6 S t1).dv ≠ .fl z:=λz hz=>e4 (by rw[<-Tr.yX,hz];unfold DV.wD;rfl)
   cases neg with
   |true=>exact Zk o.hu ah s σ H x y v u Q I rx ry ⟨_,by rw[Tr.yX];exact e3,hn,d1,d2,q⟩
   |false=>exact Zj o.hu ah s σ H x y v u Q I rx ry ⟨_,by rw[Tr.yX];exact e3,hn,d1,d2,q⟩
  ·exact q.elim
theorem agr:ni G k (compareOp .Eq) (cX false):=LI (neg:=false)
theorem ags:ni G k (compareOp .NotEq) (cX true):=LI (neg:=true)
noncomputable def ZN:Tr->Bool|.bu=>true|_=>false
noncomputable def g9 (neg:Bool):Tr->Tr->Cs->R Tr:=λt1 t2 S=>match t2 with
 |.bu=>.ok (.bl (if neg then !ZN t1 else ZN t1)) S
 |_=>.aG
theorem LJ (r:RT w t x):decide (x=V.bu)=ZN t:=by
 cases t<;>unfold RT at r<;>(first | (subst r;rfl) | (obtain⟨a,xs,rfl,_⟩:=r;rfl) | (rw[r.2];rfl))
theorem UD:ni G k (compareOp (if neg then .IsNot else .Is)) (g9 neg):=.mk<|λX o ah s σ H x y v u Q I rx ry jK=>by
 obtain⟨w,S,t1,t2,hr,r1,r2,q⟩:=jK;unfold g9 at q;split at q
 ·have q:=q w H _ (.refl w) hr gW
  cases neg with
  |true=>exact PN ah s σ H x y v u Q I rx ry ⟨ko r2,by rw[LJ r1];exact q⟩
  |false=>exact Yz ah s σ H x y v u Q I rx ry ⟨ko r2,by rw[LJ r1];exact q⟩
 ·exact q.elim
theorem agt:ni G k (compareOp .Is) (g9 false):=UD (neg:=false)
theorem Fl:ni G k (compareOp .IsNot) (g9 true):=UD (neg:=true)
noncomputable def jh:Tr->Option dJ|.int i=>some (.inl i)|.str x=>some (.inr x)|_=>none
noncomputable def aQ {κ:Type}[DecidableEq κ](k:κ):List (κ × Tr)->Option Tr
 |[]=>none
 | (j,t)::r=>if j=k then some t else aQ k r
noncomputable def kR {κ:Type}[DecidableEq κ](l:List (κ × Tr))(k:κ)(t:Tr):List (κ × Tr):=
 if (l.any λkv=>decide (kv.1=k))=true then l.map (λkv=>if kv.1=k then (kv.1,t) else kv) else l++[(k,t)]
noncomputable def bX (f:Str)(v:Tr):List (Str×Tr)->List (Str×Tr)
 |[]=>[(f,v)]
 | (g,x)::r=>if g=f then (g,v)::r else (g,x)::bX f v r
noncomputable def fD (aP jr:List (dJ×Tr)):List (dJ×Tr):=jr.foldl (λcg kv=>kR cg kv.1 kv.2) aP
section
variable {w:Wd}{κ:Type}[DecidableEq κ]
theorem oM:∀{l:List (κ × Tr)} {m:List (κ × V)} {k:κ},RK w l m->(∀t,aQ k l=some t->∃v,lz m k=some v/\RT w t v)/\(aQ k l=none->lz m k=none)
 |[],m,k,h=>by rw[h.cy];exact⟨λt e=>(by cases e),λ_=>rfl⟩
 | (j,t)::l,m,k,h=>by
  obtain⟨v,r,rfl,h1,h2⟩:=h.bD;unfold aQ;by_cases e:j=k
  ·rw[if_pos e,ou (p:=(j,v)) e]
   exact⟨λu z=>by cases z;exact⟨v,rfl,h1⟩,λz=>by cases z⟩
  ·rw[if_neg e,ow (p:=(j,v)) e]
   exact oM h2
theorem gh:∀{l:List (Str×Tr)} {m:List (Str×V)} {k:Str},RK w l m->(∀t,aQ k l=some t->∃v,m.lookup k=some v/\RT w t v)/\(aQ k l=none->m.lookup k=none)
 |[],m,k,h=>by rw[h.cy];exact⟨λt e=>(by cases e),λ_=>rfl⟩
 | (j,t)::l,m,k,h=>by
  obtain⟨v,r,rfl,h1,h2⟩:=h.bD;unfold aQ;by_cases e:j=k
  ·subst e
   rw[if_pos rfl,List.lookup_cons_self];exact⟨λu z=>by cases z;exact⟨v,rfl,h1⟩,λz=>by cases z⟩
  ·have hb:(k == j)=false:=beq_eq_false_iff_ne.mpr λz=>e z.symm
   rw[if_neg e,zaR,hb];exact gh h2
theorem RK.C8 (h:RK w l m)(k:κ)(r:RT w t v):RK w (kR l k t) (jX m k v):=by
 have alA:(l.any λkv=>decide (kv.1=k))=m.any λkv=>decide (kv.1=k):=by
  have e1:(l.any λkv=>decide (kv.1=k))=(l.map Prod.fst).any λj=>decide (j=k):=by rw[zcz];rfl
  have e2:(m.any λkv=>decide (kv.1=k))=(m.map Prod.fst).any λj=>decide (j=k):=by rw[zcz];rfl
  rw[e1,e2,h.1]
 have alB:∀{l:List (κ × Tr)} {m:List (κ × V)},RK w l m->RK w (l.map λkv=>if kv.1=k then (kv.1,t) else kv) (m.map λkv=>if kv.1=k then (kv.1,v) else kv):=by
  intro l;induction l with
  |nil=>intro m h;rw[h.cy];exact .nil
  |cons p l ih =>
   intro m h;obtain⟨j,u⟩:=p;obtain⟨x,r',rfl,h1,h2⟩:=h.bD;simp only[zas];by_cases e:j=k
   ·rw[if_pos e,if_pos e];exact .cons r (ih h2)
   ·rw[if_neg e,if_neg e];exact .cons h1 (ih h2)
 unfold kR jX;rw[alA];split
 ·exact alB h
 ·exact⟨by simp[h.1],by simp only[zaK,zas,zbM];exact h.2.snoc r⟩
theorem RK.gn:∀{l:List (Str×Tr)} {m:List (Str×V)},RK w l m->(f:Str)->{t:Tr}->{v:V}->RT w t v->RK w (bX f t l) (L2.gn f v m)
 |[],m,h,f,t,v,r=>by rw[h.cy];exact .cons r .nil
 | (j,u)::l,m,h,f,t,v,r=>by
  obtain⟨x,r',rfl,h1,h2⟩:=h.bD;unfold bX L2.gn;split
  ·exact .cons r h2
  ·exact .cons h1 (RK.gn h2 f r)
theorem RK.Au:∀{jr:List (dJ×Tr)} {mv:List (dJ×V)} {l:List (dJ×Tr)} {m:List (dJ×V)},RK w jr mv->RK w l m->RK w (fD l jr) (gc m mv)
 |[],mv,l,m,h,g=>by rw[h.cy];exact g
 | (k,t)::jr,mv,l,m,h,g=>by
  obtain⟨x,r',rfl,h1,h2⟩:=h.bD;show RK w (fD (kR l k t) jr) (gc (jX m k x) r')
  exact RK.Au h2 (g.C8 k h1)
theorem gX (e:jh t=some k)(r:RT w t v):v=kV k:=by
 cases t with
 |int i=>cases e;exact bh r
 |str i=>cases e;exact cE r
 |_=>cases e
end
noncomputable def fK:Tr->Bool|.bu=>true|.bl _=>true|.int _=>true|.str _=>true|_=>false
noncomputable def Pd:Tr->Tr->Bool
 |.bu,.bu=>true
 |.bl a,.bl b=>a == b
 |.bl a,.int b=>(if a then 1 else 0) == b
 |.int a,.bl b=>a == (if b then 1 else 0)
 |.int a,.int b=>a == b
 |.str a,.str b=>a == b
 |_,_=>false
noncomputable def JP (t:Tr)(l:List Tr):Bool:=l.any λu=>Pd u t
noncomputable def yZ (neg:Bool):Tr->Tr->Cs->R Tr:=λt1 t2 S=>match t2 with
 |.str z=>(match t1 with|.str y=>.ok (.bl (if neg then !(!(Builtin.Str.occurrences z y 0 z.length 1).isEmpty) else !(Builtin.Str.occurrences z y 0 z.length 1).isEmpty)) S|_=>.aG)
 |t2=>match AR S t2 with
  |some l=>if fK t1=true/\l.all fK=true then .ok (.bl (if neg then !JP t1 l else JP t1 l)) S else .aG
  |none=>.aG
section
variable {G:Gx}{k:Nat}{w:Wd}
theorem oN (h:fK t=true)(r:RT w t v):iu v=true:=by
 cases t<;>first | (cases h;done) | (unfold RT at r;subst r;rfl)
theorem mL:∀{l:List Tr} {xs:List V},l.all fK=true->bK w l xs->xs.all iu=true
 |[],xs,_,r=>by rw[r.cy];rfl
 |t::l,xs,h,r=>by
  obtain⟨x,r',rfl,h1,h2⟩:=r.bD;have h:=zbf.mp (show (fK t && l.all fK)=true from h)
  show (iu x && r'.all iu)=true
  rw[oN h.1 h1,mL h.2 h2];rfl
theorem DA (h1:fK t=true)(h2:fK u=true)(r1:RT w t x)(r2:RT w u y):yI x y=Pd t u:=by
 cases t<;>(first | (cases h1;done)|skip)<;>(unfold RT at r1;subst r1)<;>cases u<;>(first | (cases h2;done)|skip)<;>(unfold RT at r2;subst r2;rfl)
theorem LK (h1:fK t=true)(r:RT w t x):∀{l:List Tr} {xs:List V},l.all fK=true->bK w l xs->inV x xs=JP t l
 |[],xs,_,q=>by rw[q.cy];rfl
 |u::l,xs,h,q=>by
  obtain⟨y,r',rfl,g1,g2⟩:=q.bD;have h:=zbf.mp (show (fK u && l.all fK)=true from h)
  show (yI y x || inV x r')=(Pd u t || JP t l)
  rw[DA h.1 h1 g1 r,LK h1 r h.2 g2]
theorem UE:ni G k (compareOp (if neg then .NotIn else .In)) (yZ neg):=.mk<|λX o ah s σ H x y v u Q I rx ry bS=>by
 obtain⟨w,S,t1,t2,hr,r1,r2,q⟩:=bS;unfold yZ at q;split at q
 ·split at q
  ·have q:=q w H _ (.refl w) hr gW
   cases neg with
   |true=>exact yK ah s σ H x y v u Q I rx ry ⟨_,_,cE r1,cE r2,q⟩
   |false=>exact Hx ah s σ H x y v u Q I rx ry ⟨_,_,cE r1,cE r2,q⟩
  ·exact q.elim
 ·split at q
  ·rename_i l e
   split at q
   ·rename_i h
    obtain⟨a,xs,e1,sq,R⟩:=yV hr r2 e;have q:=q w H _ (.refl w) hr gW
    rw[<-o.K] at sq;rw[<-LK h.1 r1 h.2 R] at q;cases neg with
    |true=>exact yJ ah s σ H x y v u Q I rx ry ⟨a,xs,e1,sq,oN h.1 r1,mL h.2 R,q⟩
    |false=>exact HG ah s σ H x y v u Q I rx ry ⟨a,xs,e1,sq,oN h.1 r1,mL h.2 R,q⟩
   ·exact q.elim
  ·exact q.elim
theorem DB:ni G k (compareOp .In) (yZ false):=UE (neg:=false)
theorem AU:ni G k (compareOp .NotIn) (yZ true):=UE (neg:=true)
noncomputable def AV (neg:Bool):Tr->Tr->Cs->R Tr:=λt1 t2 S=>match Pc S t2,jh t1 with
 |some m,some j=>.ok (.bl (if neg then !(aQ j m).isSome else (aQ j m).isSome)) S
 |_,_=>.aG
variable {X:Cx}{a b c:Expr}{fa fb fc:Em}{pos Dq:Pos}
theorem AW (r:RK w m aP)(j:dJ):(lz aP j).isSome=(aQ j m).isSome:=by
 obtain⟨h1,h2⟩:=oM (k:=j) r
 cases e:aQ j m with
 |none=>rw[h2 e];rfl
 |some t=>obtain⟨v,ev,_⟩:=h1 t e;rw[ev];rfl
theorem LL (h:fO G (ai (AV neg) fa fb) σ H Q):(if neg then E4 (fO G fa) (fO G fb) else afs (fO G fa) (fO G fb)) σ H Q:=by
 have h:=pK h;have go:∀{σ H Q},tOp (r2 G (AV neg)) (fO G fa) (fO G fb) σ H Q->fO G fa σ H λy H1=>fO G fb σ H1 λx H2=>∃a o,x=V.ref a/\nE H2 a y o/\Q (.bl (if neg then !o.isSome else o.isSome)) H2:=λ{σ H Q} h=>by
  obtain⟨w,S,τ,hr,sl,q⟩:=h;refine⟨w,S,τ,hr,sl,q.mono λy H1 ⟨w1,S1,dU,bO,HU,q1⟩=>⟨w1,S1,dU,bO,HU,q1.mono λx H2 eZ=>?_⟩⟩
  obtain⟨w2,S2,t1,t2,dR,r1,r2,q2⟩:=eZ;unfold AV at q2;split at q2
  ·rename_i m j em ej
   obtain⟨n,aP,_,_,ev,hH,R⟩:=yW dR r2 em;refine⟨w2.ρ n,lz aP j,ev,?_,?_⟩
   ·rw[gX ej r1]
    exact nE.k hH
   ·rw[AW R]
    exact q2 w2 H2 _ (.refl _) dR gW
  ·exact q2.elim
 cases neg with
 |true=>exact go h
 |false=>exact go h
theorem Q4 (ha:TV G k X a fa)(hb:TV G k X b fb)(hm:autoParam (behindInMarks .NotIn b=false) zp_5):TV G k X (.Compare a [.NotIn] [b] pos) (ai (AV true) fa fb):=.mk<|λo=>(X6 (HF o.hu1 (ha o) (hb o)) hm).wk λ_ _ _ h=>LL (neg:=true) h
theorem ZO (ha:TV G k X a fa)(hb:TV G k X b fb)(hm:autoParam (behindInMarks .In b=false) zp_5):CH G k X (.Compare a [.In] [b] pos) (mB (ai (AV false) fa fb)):=.mk<|λo=>(X7 (YI o.hu1 (ha o) (hb o)) hm).wk λ_ _ _ h=>LL (neg:=false) (rB h)
noncomputable def bG:Tr->Tr->Cs->R Tr:=λt1 t2 S=>match t1,t2 with
 |.str z,.int i=>if z.length<=sizeLine then (match ig z.cps.toList i with|some c=>.ok (.str ⟨#[c]⟩) S|none=>.aG) else .aG
 |t1,.int i=>(match AR S t1 with
  |some l=>(match ig l i with|some t=>.ok t S|none=>.aG)
  |none=>.aG)
 |_,_=>.aG
theorem agu (ha:TV G k X a fa)(hb:TV G k X b fb)(hs:autoParam (E8 b) zp_8):TV G k X (.Subscript a b pos) (ai bG fa fb):=.mk<|λo=>(afz YT (ha o) (hb o) hs).wk λσ H Q h=>by
 obtain⟨w,S,τ,hr,sl,q⟩:=pK h;refine⟨w,S,τ,hr,sl,q.mono λx H1 ⟨w1,S1,dU,bO,HU,q1⟩=>⟨w1,S1,dU,bO,HU,q1.mono λy H2 iQ=>?_⟩⟩
 obtain⟨w2,S2,t1,t2,dR,r1,r2,q2⟩:=iQ;unfold bG at q2;split at q2
 ·split at q2
  ·split at q2
   ·rename_i c e
    exact .inr (.inr ⟨_,_,c,cE r1,bh r2,(by assumption),e,q2 w2 H2 _ (.refl _) dR j_⟩)
   ·exact q2.elim
  ·exact q2.elim
 ·split at q2
  ·rename_i l e
   split at q2
   ·rename_i t et
    obtain⟨p,xs,e1,sq,R⟩:=yV dR r1 e;obtain⟨v,ev,rv⟩:=R.ig et;have q:=q2 w2 H2 v (.refl _) dR rv
    rw[<-o.K] at sq;rcases sq with sq|sq
    ·exact .inl ⟨p,xs,_,v,e1,bh r2,sq,ev,q⟩
    ·exact .inr (.inl ⟨p,xs,_,v,e1,bh r2,sq,ev,q⟩)
   ·exact q2.elim
  ·exact q2.elim
 ·exact q2.elim
noncomputable def iU (f:Em):En->Cs->R (Option Int):=λτ S=>(f τ S).aE λt S1=>match t with|.int i=>.ok (some i) S1|_=>.aG
noncomputable def gx:En->Cs->R (Option Int):=λ_ S=>.ok none S
noncomputable def Q5 (G:Gx)(f:En->Cs->R (Option Int)):TO:=λσ H Q=>∃w S τ,HR G w S H/\Sl w τ σ /\ bz (λ_ a b=>a=b) G w (f τ S) Q
structure TVO (G:Gx) (k:Nat) (X:Cx) (e:Option Expr) (f:En->Cs->R (Option Int)):Prop where
 jW:ju G k X->PO X e (Q5 G f)
noncomputable instance {G:Gx}{k:Nat}{X:Cx}{e:Option Expr}{f:En->Cs->R (Option Int)}:CoeFun (TVO G k X e f) (λ_=>ju G k X->PO X e (Q5 G f)):=⟨TVO.jW⟩
theorem Q6:TVO G k X none gx:=.mk<|λo ah s σ H Q I jK=>by obtain⟨w,S,τ,hr,sl,q⟩:=jK;exact Qh ah s σ H Q I (q w H _ (.refl w) hr rfl)
theorem Q7 (ha:TV G k X a fa):TVO G k X (some a) (iU fa):=.mk<|λo ah s σ H Q I ⟨w,S,τ,hr,sl,q⟩=>Qi (ha o) ah s σ H Q I ⟨w,S,τ,hr,sl,(bz.aE q).mono λx H1 oK=>by
 obtain⟨w1,S1,t1,dh,bO,r1,_,q1⟩:=oK;split at q1
 ·exact⟨_,bh r1,q1 w1 H1 _ (.refl _) bO rfl⟩
 ·exact q1.elim⟩
noncomputable def pP (l:List Tr)(lo hi:Option Int):List Tr:=(l.drop (HT.gp l.length 0 lo)).take (HT.gp l.length l.length hi - HT.gp l.length 0 lo)
theorem bK.cut (h:bK w l xs)(lo hi:Option Int):bK w (pP l lo hi) (Aw xs lo hi):=by
 unfold pP Aw;rw[h.len];exact (h.drop _).take _
noncomputable def qA (t:Tr)(lo hi:Option Int)(S:Cs):R Tr:=match t with
 |.str z=>if z.length<=sizeLine then .ok (.str (Txt.slice z lo hi)) S else .aG
 |t=>match Fj S t with
  |some l=>.ok (.ls (pP l lo hi)) S
  |none=>match UB t with
   |some l=>if ¬ (HT.gp l.length 0 lo=0/\HT.gp l.length l.length hi=l.length) then .ok (.tp (pP l lo hi)) S else .aG
   |none=>.aG
noncomputable def Fo (g:Tr->Option Int->Option Int->Cs->R Tr)(fa:Em)(fl fh:En->Cs->R (Option Int)):Em:=λτ S=>(fa τ S).aE λt S1=>(fl τ S1).aE λlo S2=>(fh τ S2).aE λhi S3=>g t lo hi S3
variable {lo hi:Option Expr}{fl fh:En->Cs->R (Option Int)}
theorem LM (h:fO G (Fo g fa fl fh) σ H Q):tSl (λx l u H3 Q=>∃w S t,HR G w S H3/\RT w t x/\bz RT G w (g t l u S) Q) (fO G fa) (Q5 G fl) (Q5 G fh) σ H Q:=by
 obtain⟨w,S,τ,hr,sl,q⟩:=h;refine⟨w,S,τ,hr,sl,(bz.aE q).mono λx H1 ki=>?_⟩
 obtain⟨w1,S1,t1,dh,bO,r1,_,q1⟩:=ki;refine⟨w1,S1,τ,bO,sl.mono dh,(bz.aE q1).mono λl H2 nF=>?_⟩
 obtain⟨w2,S2,t2,fC,dR,r2,_,q2⟩:=nF;refine⟨w2,S2,τ,dR,(sl.mono dh).mono fC,(bz.aE q2).mono λu H3 iS=>?_⟩
 obtain⟨w3,S3,t3,lV,pM,r3,_,q3⟩:=iS;subst r2 r3;exact⟨w3,S3,t1,pM,RT.mono (fC.trans lV) _ _ r1,q3⟩
theorem agv (ha:TV G k X a fa)(hl:TVO G k X lo fl)(hh:TVO G k X hi fh):TV G k X (.Subscript a (.Slice lo hi none p2) pos) (Fo qA fa fl fh):=.mk<|λo =>
 (KC (r:=λx l u H Q=>∃w S t,HR G w S H/\RT w t x/\bz RT G w (qA t l u S) Q) (λah s σ H x v vl vu lo hi sl Q I rx hs pl pu nG=>by
  obtain⟨w,S,t,hr,r,q⟩:=nG;unfold qA at q;split at q
  ·split at q
   ·exact Y3 ah s σ H x v vl vu lo hi sl Q I rx hs pl pu ⟨_,cE r,by assumption,q w H _ (.refl w) hr j_⟩
   ·exact q.elim
  ·split at q
   ·rename_i l e
    obtain⟨a,xs,e1,sq,R⟩:=lY hr r e;rw[<-o.K] at sq;exact Qm ah s σ H x v vl vu lo hi sl Q I rx hs pl pu ⟨a,xs,e1,sq,hr.jv (R.cut lo hi) rfl q⟩
   ·split at q
    ·rename_i l e
     split at q
     ·rename_i hn
      obtain⟨a,xs,e1,sq,R⟩:=lZ hr r e;rw[<-o.K] at sq;exact YQ ah s σ H x v vl vu lo hi sl Q I rx hs pl pu ⟨a,xs,e1,sq,by rw[R.len];exact hn,hr.ZJ (R.cut lo hi) rfl q⟩
     ·exact q.elim
    ·exact q.elim) (ha o) (hl o) (hh o)).wk λ_ _ _ h=>LM h
end
section
variable {G:Gx}{k:Nat}{X:Cx}{a b c o e:Expr}{es:List Expr}{fa fb fc fo f:Em}{fr:En->Cs->R (List Tr)}{pos p fN gU:Pos}{x:Str}{id T:String}
noncomputable def rN (G:Gx)(g:List Tr->Cs->R Tr):List V->Hp->VK->Prop:=λxs H Q=>∃w S ts,HR G w S H/\bK w ts xs/\bz RT G w (g ts S) Q
noncomputable def b9 (g:List Tr->Cs->R Tr)(fr:En->Cs->R (List Tr)):Em:=λτ S=>(fr τ S).aE λts S1=>g ts S1
structure nq (G:Gx) (k:Nat) (f:Value) (g:List Tr->Cs->R Tr):Prop where
 jW:∀X:Cx,ju G k X->kQ X f (rN G g)
noncomputable instance {G:Gx}{k:Nat}{f:Value}{g:List Tr->Cs->R Tr}:CoeFun (nq G k f g) (λ_=>∀X:Cx,ju G k X->kQ X f (rN G g)):=⟨nq.jW⟩
theorem Fp (h:fO G (b9 g fr) σ H Q):tCB (rN G g) (Du G fr) σ H Q:=by
 obtain⟨w,S,τ,hr,sl,q⟩:=h;exact⟨w,S,τ,hr,sl,(bz.aE q).mono λxs H1 bS=>by obtain⟨w1,S1,ts,dh,bO,r1,_,q1⟩:=bS;exact⟨w1,S1,ts,bO,r1,q1⟩⟩
theorem cM (hc:nq G k (.builtin id) g)(hm:X.mg x=none)(hv:bootBuiltins x=some (.builtin id))(ha:vO G k X (e::es) fr)(hg:autoParam (Gl X x) zp_0)(hn:autoParam (x ≠ "__name__") zp_1)(sf:autoParam ((x == ("__debug__" : Str))=false) zp_1)
  (he:autoParam (dP e=false) zp_0) (iA:autoParam (dc es=true) zp_0):TV G k X (.Call (.Name x p) (e::es) [] pos) (b9 g fr):=.mk<|λo =>
 (Kq (hc X o) hg hm hv (ha o) hn sf (eO he) (gr iA)).wk λ_ _ _ h=>Fp h
theorem iJ (hc:nq G k (.type T) g)(hm:X.mg x=none)(hv:bootBuiltins x=some (.type T))(ha:vO G k X (e::es) fr)(hg:autoParam (Gl X x) zp_0)(hn:autoParam (x ≠ "__name__") zp_1)(sf:autoParam ((x == ("__debug__" : Str))=false) zp_1)
  (he:autoParam (dP e=false) zp_0) (iA:autoParam (dc es=true) zp_0):TV G k X (.Call (.Name x p) (e::es) [] pos) (b9 g fr):=.mk<|λo =>
 (HB (hc X o) hg hm hv (ha o) hn sf (eO he) (gr iA)).wk λ_ _ _ h=>Fp h
theorem fE (r:bK w [t] xs):∃x,xs=[x]/\RT w t x:=by
 obtain⟨x,r',rfl,h1,h2⟩:=r.bD;exact⟨x,by rw[h2.cy],h1⟩
theorem Fq (r:bK w [t,u] xs):∃x y,xs=[x,y]/\RT w t x/\RT w u y:=by
 obtain⟨x,r',rfl,h1,h2⟩:=r.bD;obtain⟨y,rfl,h3⟩:=fE h2;exact⟨x,y,rfl,h1,h3⟩
noncomputable def gm:List Tr->Cs->R Tr:=λts S=>match ts with
 |[.str z]=>if z.length<=sizeLine then .ok (.int z.length) S else .aG
 |[t]=>(match AR S t with|some l=>.ok (.int l.length) S|none=>match Pc S t with|some m=>.ok (.int m.length) S|none=>.aG)
 |_=>.aG
theorem ji:nq G k (.builtin "len") gm:=.mk<|λX o ah s σ H xs us Q I rv dB=>by
 obtain⟨w,S,ts,hr,r,q⟩:=dB;unfold gm at q;split at q
 ·split at q
  ·obtain⟨x,rfl,r1⟩:=fE r
   exact yM ah s σ H _ us Q I rv ⟨_,by rw[cE r1],by assumption,q w H _ (.refl w) hr dQ⟩
  ·exact q.elim
 ·obtain⟨x,rfl,r1⟩:=fE r
  split at q
  ·rename_i l e
   obtain⟨a,xs,e1,sq,R⟩:=yV hr r1 e;rw[<-o.K] at sq;have q:=q w H (.int xs.length) (.refl w) hr (by rw[R.len];exact dQ)
   exact yL ah s σ H _ us Q I rv ⟨a,xs,by rw[e1],sq,q⟩
  ·split at q
   ·rename_i m e
    obtain⟨n,aP,_,_,ev,hH,R⟩:=yW hr r1 e;have q:=q w H (.int aP.length) (.refl w) hr (by rw[R.len];exact dQ)
    exact HN ah s σ H _ us Q I rv ⟨w.ρ n,aP,by rw[ev],hH,q⟩
   ·exact q.elim
 ·exact q.elim
noncomputable def qC:List Tr->Cs->R Tr:=λts S=>match ts with
 |[t]=>(match AR S t with|some l=>.ok (.ls l) S|none=>.aG)
 |_=>.aG
theorem sX:nq G k (.type "list") qC:=.mk<|λX o ah s σ H xs us Q I rv eZ=>by
 obtain⟨w,S,ts,hr,r,q⟩:=eZ;unfold qC at q;split at q
 ·obtain⟨x,rfl,r1⟩:=fE r
  split at q
  ·rename_i l e
   obtain⟨a,xs,e1,sq,R⟩:=yV hr r1 e;rw[<-o.K] at sq;exact yN ah s σ H _ us Q I rv ⟨a,xs,by rw[e1],sq,hr.jv R rfl q⟩
  ·exact q.elim
 ·exact q.elim
noncomputable def aoi:List Tr->Cs->R Tr:=λts S=>match ts with
 |[.int i,.int j]=>.ok (.int (if j > i then j else i)) S
 |_=>.aG
noncomputable def wJ:List Tr->Cs->R Tr:=λts S=>match ts with
 |[.int i,.int j]=>.ok (.int (if j<i then j else i)) S
 |_=>.aG
theorem ZP (hk:autoParam (0<k) zp_2):nq G k (.builtin "min") wJ:=.mk<|λX o ah s σ H xs us Q I rv oK=>by
 obtain⟨w,S,ts,hr,r,q⟩:=oK;unfold wJ at q;split at q
 ·obtain⟨x,y,rfl,r1,r2⟩:=Fq r
  exact Hy (o.fQ hk) ah s σ H _ us Q I rv ⟨_,_,by rw[bh r1,bh r2],q w H _ (.refl w) hr dQ⟩
 ·exact q.elim
noncomputable def qD:List Tr->Option (List Int)|[]=>some []|.int i::l=>(qD l).map (i::·)|_=>none
noncomputable def qE:List Tr->Option (List Bool)|[]=>some []|.bl i::l=>(qE l).map (i::·)|_=>none
theorem AX:∀{l:List Tr} {xs:List V} {ns:List Int},qD l=some ns->bK w l xs->xs=ns.map V.int
 |[],xs,ns,h,r=>by cases h;exact r.cy
 |t::l,xs,ns,h,r=>by
  obtain⟨x,r',rfl,h1,h2⟩:=r.bD;cases t with
  |int i =>
   cases e:qD l with
   |none=>unfold qD at h;rw[e] at h;cases h
   |some ms=>unfold qD at h;rw[e] at h;cases h;rw[AX e h2,bh h1];rfl
  |_=>cases h
theorem AY:∀{l:List Tr} {xs:List V} {ns:List Bool},qE l=some ns->bK w l xs->xs=ns.map V.bl
 |[],xs,ns,h,r=>by cases h;exact r.cy
 |t::l,xs,ns,h,r=>by
  obtain⟨x,r',rfl,h1,h2⟩:=r.bD;cases t with
  |bl i =>
   cases e:qE l with
   |none=>unfold qE at h;rw[e] at h;cases h
   |some ms=>unfold qE at h;rw[e] at h;cases h;rw[AY e h2,pN h1];rfl
  |_=>cases h
noncomputable def Q8:List Tr->Cs->R Tr:=λts S=>match ts with
 |[t]=>(match Fj S t with|some l=>(match qD l with|some ns=>.ok (.int ns.sum) S|none=>.aG)|none=>.aG)
 |_=>.aG
theorem agw (hk:autoParam (0<k) zp_2):nq G k (.builtin "sum") Q8:=.mk<|λX o ah s σ H xs us Q I rv ki=>by
 obtain⟨w,S,ts,hr,r,q⟩:=ki;unfold Q8 at q;split at q
 ·obtain⟨x,rfl,r1⟩:=fE r
  split at q
  ·rename_i l e
   split at q
   ·rename_i ns en
    obtain⟨a,xs,e1,sq,R⟩:=lY hr r1 e;rw[<-o.K,AX en R] at sq;exact Lj (o.fQ hk) ah s σ H _ us Q I rv ⟨a,ns,by rw[e1],sq,q w H _ (.refl w) hr dQ⟩
   ·exact q.elim
  ·exact q.elim
 ·exact q.elim
noncomputable def Q9:List Tr->Cs->R Tr:=λts S=>match ts with
 |[t]=>(match AQ S t with|some l=>(match qE l with|some ns=>.ok (.bl (ns.any _root_.id)) S|none=>.aG)|none=>.aG)
 |_=>.aG
theorem agx (hk:autoParam (0<k) zp_2):nq G k (.builtin "any") Q9:=.mk<|λX o ah s σ H xs us Q I rv iS=>by
 obtain⟨w,S,ts,hr,r,q⟩:=iS;unfold Q9 at q;split at q
 ·obtain⟨x,rfl,r1⟩:=fE r
  split at q
  ·rename_i l e
   split at q
   ·rename_i ns en
    obtain⟨a,xs,e1,sq,R⟩:=lW hr r1 e;rw[AY en R] at sq;exact Ll (o.fQ hk) ah s σ H _ us Q I rv ⟨a,ns,by rw[e1],sq,q w H _ (.refl w) hr gW⟩
   ·exact q.elim
  ·exact q.elim
 ·exact q.elim
noncomputable def rM (G:Gx)(g:Tr->List Tr->Cs->R Tr):V->List V->Hp->VK->Prop:=λx xs H Q=>∃w S t ts,HR G w S H/\RT w t x/\bK w ts xs/\bz RT G w (g t ts S) Q
noncomputable def nJ (ck:Cs->Tr->Bool)(g:Tr->List Tr->Cs->R Tr)(fo:Em)(fr:En->Cs->R (List Tr)):Em:=λτ S=>(fo τ S).aE λt S1=>if ck S1 t=true then (fr τ S1).aE λts S2=>g t ts S2 else .aG
structure Ii (G:Gx) (k:Nat) (id:String) (g:Tr->List Tr->Cs->R Tr):Prop where
 jW:∀X:Cx,ju G k X->MtR X id (rM G g)
noncomputable instance {G:Gx}{k:Nat}{id:String}{g:Tr->List Tr->Cs->R Tr}:CoeFun (Ii G k id g) (λ_=>∀X:Cx,ju G k X->MtR X id (rM G g)):=⟨Ii.jW⟩
noncomputable def CJ (S:Cs)(t:Tr):Bool:=(Fj S t).isSome
noncomputable def ckD (S:Cs)(t:Tr):Bool:=(Pc S t).isSome
noncomputable def agz (ck:Cs->Tr->Bool)(T:String):Prop:=∀(G:Gx) (w:Wd) (S:Cs) (H:Hp) (t:Tr) (v:V),HR G w S H->RT w t v->ck S t=true->tyV G.K T v H
theorem jw:agz CJ "list" := λG w S H t v hr r e=>by
 unfold CJ at e;obtain⟨l,el⟩:=zbR.mp e;obtain⟨a,xs,rfl,sq,_⟩:=lY hr r el;exact .inl ⟨rfl,xs,sq⟩
theorem ZQ (hs:dP e=false)(JK:dc es=true)(dm:decide (es.length<29)=true):((backTo gU (starEach (e::es) env)).all (λx=>!x.1) && (backToKw gU (keywordEach [] env)).all (λx=>x.1.isSome)
   && decide ((e::es).length+([]:List Keyword).length+(if ([]:List Keyword).isEmpty then 0 else 1)<30))=true:=by
 have h1:dc (e::es)=true:=by show (!dP e && dc es)=true;rw[hs,JK];rfl
 rw[AN h1];have h2:es.length<29:=of_decide_eq_true dm
 show (true && true && decide (es.length+1+0+0<30))=true
 rw[decide_eq_true (by omega)];rfl
theorem jx (pa:PlainAttrs T)(slot:Slot T name id)(hty:typeOf (.builtin id)=pure (.type "method_descriptor"))(hck:agz ck T)(hm:Ii G k id g)(ho:TV G k X o fo)(ha:vO G k X (e::es) fr)
  (KH:autoParam (attributeBase o name X.env (eval o X.env)=eval o X.env) zp_0)
  (hs:autoParam (dP e=false) zp_0) (JK:autoParam (dc es=true) zp_0) (dm:autoParam (decide (es.length<29)=true) zp_0) (KJ:autoParam ((fN.endLine == gU.line)=true) zp_0):
  TV G k X (.Call (.Attribute o name fN) (e::es) [] gU) (nJ ck g fo fr):=.mk<|λox =>
 (afE pa slot hty (hm X ox) (ho ox) (ha ox) KH (ZQ hs JK dm) KJ (eO hs) (gr JK)).wk λσ H Q h=>by
  obtain⟨w,S,τ,hr,sl,q⟩:=h;refine⟨w,S,τ,hr,sl,(bz.aE q).mono λx H1 sR=>?_⟩
  obtain⟨w1,S1,t1,dh,bO,r1,_,q1⟩:=sR;split at q1
  ·rename_i hk
   rw[ox.K];exact⟨hck G w1 S1 H1 t1 x bO r1 hk,w1,S1,τ,bO,sl.mono dh,(bz.aE q1).mono λxs H2 sS=>by obtain⟨w2,S2,ts,fC,dR,r2,_,q2⟩:=sS;exact⟨w2,S2,t1,ts,dR,RT.mono fC _ _ r1,r2,q2⟩⟩
  ·exact q1.elim
noncomputable def pQ:Tr->List Tr->Cs->R Tr:=λt ts S=>match t,ts with
 |.hd n,[u]=>(match cD S n with|some l=>if l.length<sizeLine then .ok .bu (S.set n (.bM (l++[u]))) else .aG|none=>.aG)
 |_,_=>.aG
noncomputable def Q_:Tr->List Tr->Cs->R Tr:=λt ts S=>match t,ts with
 |.hd n,[u]=>(match cD S n,AQ S u with|some l,some m=>if l.length+m.length<=sizeLine then .ok .bu (S.set n (.bM (l++m))) else .aG|_,_=>.aG)
 |_,_=>.aG
theorem putL (hr:HR G w S H)(e:cD S n=some l)(r:bK w l' ys):HR G w (S.set n (.bM l')) (bF H (w.ρ n) (.bM ys)):=
 hr.C8 (c9 e) rfl rfl ⟨ys,az,r⟩
theorem gY:Ii G k "list.append" pQ:=.mk<|λX o ah s σ H x xs v us Q I rx rv sU=>by
 obtain⟨w,S,t,ts,hr,r,rs,q⟩:=sU;unfold pQ at q;split at q
 ·split at q
  ·rename_i l e
   split at q
   ·obtain⟨y,rfl,r1⟩:=fE rs
    obtain⟨ys,h1,h2⟩:=hr.cell _ _ (c9 e)
    exact wo ah s σ H x _ v us Q I rx rv ⟨_,ys,y,r.c_.2,rfl,h1,by rw[h2.len];assumption,q w _ _ (.refl w) (putL hr e (h2.snoc r1)) sP⟩
   ·exact q.elim
  ·exact q.elim
 ·exact q.elim
theorem LN:Ii G k "list.extend" Q_:=.mk<|λX o ah s σ H x xs v us Q I rx rv Dw=>by
 obtain⟨w,S,t,ts,hr,r,rs,q⟩:=Dw;unfold Q_ at q;split at q
 ·split at q
  ·rename_i l m e em
   split at q
   ·obtain⟨y,rfl,r1⟩:=fE rs
    obtain⟨ys,h1,h2⟩:=hr.cell _ _ (c9 e)
    obtain⟨b,zs,rfl,hb,R⟩:=lW hr r1 em;exact HJ ah s σ H x _ v us Q I rx rv ⟨_,b,ys,zs,r.c_.2,rfl,h1,hb,by rw[h2.len,R.len];assumption,q w _ _ (.refl w) (putL hr e (h2.rq R)) sP⟩
   ·exact q.elim
  ·exact q.elim
 ·exact q.elim
noncomputable def y9 (t:Tr):List Tr->Option Nat
 |[]=>none
 |u::l=>if Pd u t=true then some 0 else (y9 t l).map (· + 1)
theorem Ft {x:V}(ft:fK t=true)(r:RT w t x):∀{l:List Tr} {xs:List V} {j:Nat},l.all fK=true->bK w l xs->y9 t l=some j->∃z,xs[j]? = some z/\yI z x=true/\∀m z',m<j->xs[m]? = some z'->yI z' x=false
 |[],xs,j,_,_,e=>by cases e
 |u::l,xs,j,h,q,e=>by
  obtain⟨y,r',rfl,g1,g2⟩:=q.bD;have h:=zbf.mp (show (fK u && l.all fK)=true from h)
  unfold y9 at e;split at e
  ·rename_i he
   cases e;exact⟨y,rfl,by rw[DA h.1 ft g1 r];exact he,λm z' hm=>by omega⟩
  ·rename_i he
   cases ei:y9 t l with
   |none=>rw[ei] at e;cases e
   |some i =>
    rw[ei] at e;cases e;obtain⟨z,k1,k2,k3⟩:=Ft ft r h.2 g2 ei;refine⟨z,by simpa using k1,k2,λm z' hm hz=>?_⟩
    cases m with
    |zero =>
     simp at hz
     subst hz;rw[DA h.1 ft g1 r];exact Bool.eq_false_iff.mpr he
    |succ m=>exact k3 m z' (by have hm:m+1<i+1:=hm;omega) (by simpa using hz)
noncomputable def pR:Tr->List Tr->Cs->R Tr:=λt ts S=>match ts with
 |[u]=>(match AQ S t with|some l=>if fK u=true/\l.all fK=true then (match y9 u l with|some j=>.ok (.int (j:Int)) S|none=>.aG) else .aG|none=>.aG)
 |_=>.aG
theorem Ra:Ii G k "list.index" pR:=.mk<|λX o ah s σ H x xs v us Q I rx rv ZR=>by
 obtain⟨w,S,t,ts,hr,r,rs,q⟩:=ZR;unfold pR at q;split at q
 ·split at q
  ·rename_i l e
   split at q
   ·rename_i h
    split at q
    ·rename_i j ej
     obtain⟨y,rfl,r1⟩:=fE rs;obtain⟨a,ys,rfl,ha,R⟩:=lW hr r e;obtain⟨z,k1,k2,k3⟩:=Ft h.1 r1 h.2 R ej;exact La ah s σ H _ _ v us Q I rx rv ⟨a,ys,y,z,j,rfl,rfl,ha,oN h.1 r1,mL h.2 R,k1,k2,k3,q w H _ (.refl w) hr dQ⟩
    ·exact q.elim
   ·exact q.elim
  ·exact q.elim
 ·exact q.elim
theorem bK.ints:∀(l:List Int),bK w (l.map Tr.int) (l.map V.int)
 |[]=>.nil
 |x::l=>.cons dQ (bK.ints l)
end
section
variable {G:Gx}{k:Nat}{X:Cx}{a b c o e value:Expr}{es:List Expr}{fa fb fc fo fi fv f:Em}{fr:En->Cs->R (List Tr)}{pos jD p fN gU:Pos}{x:Str}
noncomputable def bY (i:Nat):Tr->En->Cs->R En:=λt τ S=>.ok (τ.set i (some t)) S
theorem Rb (hN:X.N.Nodup)(hi:X.N[i]? = some x)(hx:Ub X.env.scope x)(hf:autoParam (X.fn x=true\/X.env.scope.names.lookup x=some .local) zp_4):Lz G k X (.Name x pos) (bY i):=.mk<|λ_=>(Px hN hi hx hf).wk λv σ H Q h=>by
 obtain⟨w,S,τ,t,hr,sl,r,q⟩:=h;exact q w H _ (.refl w) hr (sl.set i r)
noncomputable abbrev Bs:=List Tr->En->Cs->R En
noncomputable def qV:Bs:=λts τ S=>match ts with|[]=>.ok τ S|_=>.aG
noncomputable def fL (b:Tr->En->Cs->R En)(r:Bs):Bs:=λts τ S=>match ts with|t::l=>(b t τ S).aE λdU S1=>r l dU S1|[]=>.aG
noncomputable def UG (G:Gx)(f:Bs):TGs:=λvs σ H Q=>∃w S τ ts,HR G w S H/\Sl w τ σ /\ bK w ts vs/\bz Sl G w (f ts τ S) Q
structure Ij (G:Gx) (k:Nat) (X:Cx) (ts:List Expr) (f:Bs):Prop where
 jW:ju G k X->Pw X ts (UG G f)
noncomputable instance {G:Gx}{k:Nat}{X:Cx}{ts:List Expr}{f:Bs}:CoeFun (Ij G k X ts f) (λ_=>ju G k X->Pw X ts (UG G f)):=⟨Ij.jW⟩
theorem Pw.wk (h:Pw X ts t)(g:∀vs σ H Q,t' vs σ H Q->t vs σ H Q):Pw X ts t':=λah s σ H vs us Q I r q=>h ah s σ H vs us Q I r (g _ _ _ _ q)
theorem Rc:Ij G k X [] qV:=.mk<|λ_=>Py.wk λvs σ H Q h=>by
 obtain⟨w,S,τ,ts,hr,sl,r,q⟩:=h;unfold qV at q;split at q
 ·exact⟨r.cy,q w H _ (.refl w) hr sl⟩
 ·exact q.elim
theorem LO {b:Tr->En->Cs->R En}(h1:Lz G k X e b)(h2:Ij G k X es r)(hs:autoParam ((assignEach (e::es) X.env).map (·.2)=assign e X.env::(assignEach es X.env).map (·.2)) zp_0):Ij G k X (e::es) (fL b r):=.mk<|λo=>(J3 (h1 o) (h2 o) hs).wk λvs σ H Q h=>by
 obtain⟨w,S,τ,ts,hr,sl,r,q⟩:=h;unfold fL at q;split at q
 ·obtain⟨v,vr,rfl,r1,r2⟩:=r.bD
  exact⟨v,vr,rfl,w,S,τ,_,hr,sl,r1,(bz.aE q).mono λσ1 H1 bS=>by obtain⟨w1,S1,dU,dh,bO,HU,_,q1⟩:=bS;exact⟨w1,S1,dU,_,bO,HU,bK.mono dh _ _ r2,q1⟩⟩
 ·exact q.elim
noncomputable def kT (n:Nat)(r:Bs):Tr->En->Cs->R En:=λt τ S=>match UB t with|some l=>if l.length=n then r l τ S else .aG|none=>.aG
theorem l7 (h:Ij G k X es r)(hn:autoParam ((assignEach es X.env).length=n) zp_0)(qm:autoParam ((assignEach es X.env).findIdx? (·.1)=none) zp_0)(hk:autoParam (0<k) zp_2):Lz G k X (.Tuple es kk pos) (kT n r):=.mk<|λo=>(Yk (o.fQ hk) (h o) hn qm).wk λv σ H Q h=>by
 obtain⟨w,S,τ,t,hr,sl,r,q⟩:=h;unfold kT at q;split at q
 ·rename_i l el
  split at q
  ·obtain⟨a,xs,e1,sq,R⟩:=lZ hr r el
   rw[<-o.K] at sq;exact⟨a,xs,e1,sq,by rw[R.len];assumption,w,S,τ,l,hr,sl,R,q⟩
  ·exact q.elim
 ·exact q.elim
noncomputable def ZS (fo fi:Em):Tr->En->Cs->R En:=λt τ S=>(fo τ S).aE λu S1=>(fi τ S1).aE λj S2=>match u,j with
 |.hd n,.int i=>(match cD S2 n with|some l=>(match Aa l.length i with|some m=>.ok τ (S2.set n (.bM (l.set m t)))|none=>.aG)|none=>.aG)
 |_,_=>.aG
theorem ZT (ho:TV G k X o fo)(hi:TV G k X i fi)(ha:autoParam (∀v,assign (.Subscript o i pos) X.env v=(do
   let ov <-holding [v] (eval o X.env)
   let iv <-holding [v,ov] (eval i X.env)
   standAt pos
   holding [v,ov,iv] (setItem ov iv v)
   release [v,ov,iv] [])) zp_3):Lz G k X (.Subscript o i pos) (ZS fo fi):=.mk<|λox=>(Yl (ho ox) (hi ox) af1 ha).wk λv σ H Q h=>by
 obtain⟨w,S,τ,t,hr,sl,r,q⟩:=h;refine⟨w,S,τ,hr,sl,(bz.aE q).mono λx H1 dB=>?_⟩
 obtain⟨w1,S1,t1,dh,bO,r1,_,q1⟩:=dB;refine⟨w1,S1,τ,bO,sl.mono dh,(bz.aE q1).mono λy H2 eZ=>?_⟩
 obtain⟨w2,S2,t2,fC,dR,r2,_,q2⟩:=eZ;split at q2
 ·split at q2
  ·rename_i l el
   split at q2
   ·rename_i m em
    have r1':=(RT.mono fC _ _ r1).c_
    obtain⟨ys,h1,h2⟩:=dR.cell _ _ (c9 el)
    refine⟨_,_,r1'.2,bh r2,?_⟩
    rw[h1];show match Aa ys.length _ with|some j=>_|none=>False
    rw[h2.len,em];exact q2 w2 _ _ (.refl _) (putL dR el (h2.set (RT.mono (dh.trans fC) _ _ r) m)) ((sl.mono dh).mono fC)
   ·exact q2.elim
  ·exact q2.elim
 ·exact q2.elim
noncomputable def aI:Sm:=λτ S=>.nx τ S
noncomputable def ao (f g:Sm):Sm:=λτ S=>match f τ S with|.nx dU S1=>g dU S1|r=>r
noncomputable def cQ (f:Em):Sm:=λτ S=>(f τ S).bP λ_ S1=>.nx τ S1
noncomputable def aJ (f:Em):Sm:=λτ S=>(f τ S).bP λt S1=>.rt t S1
noncomputable def cO (c:En->Cs->R Bool)(f g:Sm):Sm:=λτ S=>(c τ S).bP λb S1=>if b=true then f τ S1 else g τ S1
noncomputable def aX (i:Nat)(f:Em):Sm:=λτ S=>(f τ S).bP λt S1=>.nx (τ.set i (some t)) S1
noncomputable def ZU (f:Em)(b:Tr->En->Cs->R En):Sm:=λτ S=>(f τ S).bP λt S1=>(b t τ S1).bP λdU S2=>.nx dU S2
noncomputable def LP:Sm:=λ_ _=>.aG
variable {st:Stmt}{cK:List Stmt}{s1 s2:Sm}
theorem ZV:Ic G k X [] aI:=.mk<|λ_=>Pr.wk λD σ H h=>by
 obtain⟨w,S,τ,hr,sl,q⟩:=h;exact q w H σ (.refl w) hr sl
theorem ZW (h:yS G k X st s1):Ic G k X [st] s1:=.mk<|λo=>EU (h o)
theorem Rf (h1:yS G k X st s1)(h2:Ic G k X cK s2):Ic G k X (st::cK) (ao s1 s2):=.mk<|λo=>(rZ (h1 o) (h2 o)).wk λD σ H h=>by
 obtain⟨w,S,τ,hr,sl,q⟩:=h;refine⟨w,S,τ,hr,sl,?_⟩
 unfold ao at q;split at q
 ·rename_i dU S1 e
  rw[e];exact λw' H' dS le qW JX=>⟨w',S1,dU,qW,JX,cC.wd le q⟩
 ·rename_i r CD
  cases e:s1 τ S with
  |nx dU S1=>exact absurd e (CD dU S1)
  |rt t S1=>rw[e] at q;exact q
  |bk t S1=>rw[e] at q;exact q
  |ct t S1=>rw[e] at q;exact q
  |ex t S1=>rw[e] at q;exact q
  |aG=>rw[e] at q;exact q
theorem LQ:yS G k X st LP:=.mk<|λ_=>J2.wk λD σ H h=>by
 obtain⟨w,S,τ,hr,sl,q⟩:=h;exact q.elim
theorem Rg (he:TV G k X e f)(hs:autoParam (swapsWith e none pos.line X.env=pure false) zp_0):yS G k X (.Expr e pos) (cQ f):=.mk<|λo=>(EV (he o) hs).wk λD σ H h=>by
 obtain⟨w,S,τ,hr,sl,q⟩:=h;exact⟨w,S,τ,hr,sl,(cC.aE q).mono λv H1 iP=>by obtain⟨w1,S1,t1,dh,bO,r1,_,q1⟩:=iP;exact q1 w1 H1 σ (.refl _) bO (sl.mono dh)⟩
theorem ZX (he:TV G k X e f):yS G k X (.Return (some e) pos) (aJ f):=.mk<|λo=>(Yh (he o)).wk λD σ H h=>by
 obtain⟨w,S,τ,hr,sl,q⟩:=h;exact⟨w,S,τ,hr,sl,(cC.aE q).mono λv H1 iQ=>by obtain⟨w1,S1,t1,dh,bO,r1,_,q1⟩:=iQ;exact q1 w1 H1 v (.refl _) bO r1⟩
theorem agA (hc:CH G k X c ta)(ha:Ic G k X as s1)(hb:Ic G k X bs s2):yS G k X (.If c as bs pos) (cO ta s1 s2):=.mk<|λo=>(aeV (hc o) (ha o) (hb o)).wk λD σ H h=>by
 obtain⟨w,S,τ,hr,sl,q⟩:=h;refine⟨w,S,τ,hr,sl,(cC.aE q).mono λx H1 lT=>?_⟩
 obtain⟨w1,S1,t1,dh,bO,r1,_,q1⟩:=lT;subst r1;cases t1 with
 |true=>rw[if_pos rfl] at q1;exact AA ⟨w1,S1,τ,bO,sl.mono dh,q1⟩
 |false=>rw[if_neg zak] at q1;exact Az ⟨w1,S1,τ,bO,sl.mono dh,q1⟩
theorem LR (h:Lw G (aX i f) D σ H):Pz (fO G f) (EW i) D σ H:=by
 obtain⟨w,S,τ,hr,sl,q⟩:=h;exact⟨w,S,τ,hr,sl,(cC.aE q).mono λv H1 jH=>by obtain⟨w1,S1,t1,dh,bO,r1,_,q1⟩:=jH;exact q1 w1 H1 _ (.refl _) bO ((sl.mono dh).set i r1)⟩
theorem ZY (hN:X.N.Nodup)(hi:X.N[i]? = some x)(hx:Ub X.env.scope x)(he:TV G k X e f)(hs:autoParam (swapsWith e (some (.Name x jD)) pos.line X.env=pure false) zp_0)(hf:autoParam (X.fn x=true\/X.env.scope.names.lookup x=some .local) zp_4):
  yS G k X (.Assign [.Name x jD] e pos) (aX i f):=.mk<|λo=>(Yn hN hi hx (he o) hs hf).wk λ_ _ _ h=>LR h
theorem ZZ {b:Tr->En->Cs->R En}(he:TV G k X e f)(hg:Lz G k X tg b)(hs:autoParam (swapsWithSole [tg] e pos.line X.env=pure false) zp_0)(hw:autoParam (swappedStores [tg] e X.env=pure none) zp_0)
  (h1:autoParam ((assignEach [tg] X.env).map (·.2)=[assign tg X.env]) zp_0):yS G k X (.Assign [tg] e pos) (ZU f b):=.mk<|λo=>(Ym (he o) (hg o) hs hw h1).wk λD σ H h=>by
 obtain⟨w,S,τ,hr,sl,q⟩:=h;exact⟨w,S,τ,hr,sl,(cC.aE q).mono λv H1 jK=>by obtain⟨w1,S1,t1,dh,bO,r1,_,q1⟩:=jK;exact⟨w1,S1,τ,t1,bO,sl.mono dh,r1,(cC.aE q1).mono λz_ H2 LD=>by obtain⟨w2,S2,jT,fC,dR,Kz,_,q2⟩:=LD;exact q2 w2 H2 z_ (.refl _) dR Kz⟩⟩
noncomputable def alD (i j:Nat)(fr:En->Cs->R (List Tr)):Sm:=λτ S=>(fr τ S).bP λts S1=>match ts with|[t,u]=>.nx ((τ.set i (some t)).set j (some u)) S1|_=>.aG
noncomputable def oO (u j t:Tr)(S:Cs):R Unit:=match u with
 |.hd n=>(match jh j with|some q=>(match sV S n with|some m=>if m.length<sizeLine then .ok () (S.set n (.jt (kR m q t))) else .aG|none=>.aG)|none=>.aG)
 |_=>.aG
theorem LS {x y v:V}(hr:HR G w S H)(ru:RT w u x)(rj:RT w j y)(rt:RT w t v)(e:oO u j t S = .ok () S'):∃a H',x = .ref a/\HC H a y v H'/\HR G w S' H':=by
 unfold oO at e;split at e
 ·split at e
  ·rename_i q ek
   split at e
   ·rename_i m em
    split at e
    ·cases e
     obtain⟨aP,h1,h2⟩:=hr.cell _ _ (gK em)
     refine⟨_,_,ru.c_.2,by rw[gX ek rj];exact HC.k h1 (by rw[h2.len];assumption),?_⟩
     exact hr.C8 (gK em) rfl rfl ⟨_,az,h2.C8 q rt⟩
    ·cases e
   ·cases e
  ·cases e
 ·cases e
noncomputable def Fv (fo fi fv:Em):Sm:=λτ S=>(fv τ S).bP λt S1=>(fo τ S1).bP λu S2=>(fi τ S2).bP λj S3=>(oO u j t S3).bP λ_ S4=>.nx τ S4
theorem DC:oO u j t S ≠ .ex n S':=by
 unfold oO;split<;>(try split)<;>(try split)<;>(try split)<;>simp
theorem Fw (ho:TV G k X o fo)(hi:TV G k X i fi)(hv:TV G k X value fv)(hs:autoParam (swapsWith value (some (.Subscript o i jD)) pos.line X.env=pure false) zp_0):yS G k X (.Assign [.Subscript o i jD] value pos) (Fv fo fi fv):=.mk<|λox=>(Qc ox.hu1 (ho ox) (hi ox) (hv ox) hs).wk λD σ H h=>by
 obtain⟨w,S,τ,hr,sl,q⟩:=h;refine⟨w,S,τ,hr,sl,(cC.aE q).mono λv H1 ki=>?_⟩
 obtain⟨w1,S1,t,dh,bO,r1,_,q1⟩:=ki;refine⟨w1,S1,τ,bO,sl.mono dh,(cC.aE q1).mono λx H2 nF=>?_⟩
 obtain⟨w2,S2,u,fC,dR,r2,_,q2⟩:=nF;refine⟨w2,S2,τ,dR,(sl.mono dh).mono fC,(cC.aE q2).mono λy H3 iS=>?_⟩
 obtain⟨w3,S3,j,lV,pM,r3,_,q3⟩:=iS;cases e:oO u j t S3 with
 |ok z S4 =>
  rw[e] at q3;obtain⟨a,H4,e1,d,JM⟩:=LS pM (RT.mono lV _ _ r2) r3 (RT.mono (fC.trans lV) _ _ r1) e
  exact⟨a,H4,e1,d,q3 w3 _ σ (.refl _) JM (((sl.mono dh).mono fC).mono lV)⟩
 |ex n S4=>exact absurd e DC
 |aG=>rw[e] at q3;exact q3.elim
noncomputable def dH (G:Gx)(cs:List Str)(f:Str):Prop:=∀c∈cs,vE G.K (G.cl c)/\bV G.K (G.cl c) f
noncomputable def Ik (cs:List Str)(f:Str)(t:Tr)(S:Cs):R Tr:=match t with
 |.hd n=>(match iy S n with|some (c,fs)=>if c∈cs then (match aQ f fs with|some u=>.ok u S|none=>.aG) else .aG|none=>.aG)
 |_=>.aG
noncomputable def aO (cs:List Str)(f:Str)(fo:Em):Em:=λτ S=>(fo τ S).aE λt S1=>Ik cs f t S1
theorem av {f:Str}(hf:dH G cs f)(ho:TV G k X o fo)(hb:autoParam (attributeBase o f X.env (eval o X.env)=eval o X.env) zp_0):TV G k X (.Attribute o f pos) (aO cs f fo):=.mk<|λox=>(YB (ho ox) hb).wk λσ H Q h=>by
 obtain⟨w,S,τ,hr,sl,q⟩:=h;refine⟨w,S,τ,hr,sl,(bz.aE q).mono λx H1 nG=>?_⟩
 obtain⟨w1,S1,t1,dh,bO,r1,_,q1⟩:=nG;unfold Ik at q1;split at q1
 ·split at q1
  ·rename_i c fs ei
   split at q1
   ·rename_i hc
    split at q1
    ·rename_i u eu
     obtain⟨dx,sM,h1,h2⟩:=bO.cell _ _ (e9 ei)
     obtain⟨v,ev,rv⟩:=(gh (k:=f) h2).1 u eu
     obtain⟨c1,c2⟩:=hf c hc;rw[<-ox.K] at c1 c2;exact⟨_,_,dx,sM,v,r1.c_.2,h1,c1,c2,ev,q1 w1 H1 v (.refl _) bO rv⟩
    ·exact q1.elim
   ·exact q1.elim
  ·exact q1.elim
 ·exact q1.elim
noncomputable def oQ (cs:List Str)(f:Str)(t v:Tr)(S:Cs):R Unit:=match t with
 |.hd n=>(match iy S n with|some (c,fs)=>if c∈cs/\fs.length<1000 then .ok () (S.set n (.d_ c (bX f v fs))) else .aG|none=>.aG)
 |_=>.aG
noncomputable def bQ (cs:List Str)(f:Str)(fo fv:Em):Sm:=λτ S=>(fv τ S).bP λt S1=>(fo τ S1).bP λu S2=>(oQ cs f u t S2).bP λ_ S3=>.nx τ S3
theorem Rh {f:Str}{x y:V}(hf:dH G cs f)(hr:HR G w S H)(rt:RT w t x)(ru:RT w u y)(e:oQ cs f t u S = .ok () S'):
  ∃a C dx fs,x = .ref a/\H a=some (.d_ C dx fs)/\vE G.K C/\bV G.K C f/\fs.length<1000/\HR G w S' (bF H a (.d_ C dx (gn f y fs))):=by
 unfold oQ at e;split at e
 ·split at e
  ·rename_i c fs ei
   split at e
   ·rename_i hc
    cases e;obtain⟨dx,sM,h1,h2⟩:=hr.cell _ _ (e9 ei)
    obtain⟨c1,c2⟩:=hf c hc.1;exact⟨_,_,dx,sM,rt.c_.2,h1,c1,c2,by rw[h2.len];exact hc.2,hr.C8 (e9 ei) rfl rfl ⟨dx,_,az,h2.gn f ru⟩⟩
   ·cases e
  ·cases e
 ·cases e
theorem aR {f:Str}(hf:dH G cs f)(ho:TV G k X o fo)(hv:TV G k X value fv)(hs:autoParam (swapsWith value (some (.Attribute o f jD)) pos.line X.env=pure false) zp_0):yS G k X (.Assign [.Attribute o f jD] value pos) (bQ cs f fo fv):=.mk<|λox=>(YC (ho ox) (hv ox) hs).wk λD σ H h=>by
 obtain⟨w,S,τ,hr,sl,q⟩:=h;refine⟨w,S,τ,hr,sl,(cC.aE q).mono λv H1 sR=>?_⟩
 obtain⟨w1,S1,t,dh,bO,r1,_,q1⟩:=sR;refine⟨w1,S1,τ,bO,sl.mono dh,(cC.aE q1).mono λx H2 sS=>?_⟩
 obtain⟨w2,S2,u,fC,dR,r2,_,q2⟩:=sS;cases e:oQ cs f u t S2 with
 |ok z S3 =>
  rw[e] at q2;obtain⟨a,C,dx,fs,e1,h1,c1,c2,hl,pM⟩:=Rh hf dR r2 (RT.mono fC _ _ r1) e
  rw[<-ox.K] at c1 c2;exact⟨a,C,dx,fs,e1,h1,c1,c2,hl,q2 w2 _ σ (.refl _) pM ((sl.mono dh).mono fC)⟩
 |ex n S3=>exact absurd e (by unfold oQ;split<;>(try split)<;>(try split)<;>simp)
 |aG=>rw[e] at q2;exact q2.elim
noncomputable def wK (cs:List Str)(f:Str)(g:Int->Int->Int)(fo fv:Em):Sm:=λτ S=>(fo τ S).bP λt S1=>match t with
 |.hd n=>(match iy S1 n with
  |some (c,fs)=>if c∈cs then (match aQ f fs with
   |some (.int i)=>(fv τ S1).bP λy S2=>(match y with
    |.int j=>(match iy S2 n with|some (c',JH)=>if c'=c/\JH.length<1000 then .nx τ (S2.set n (.d_ c (bX f (.int (g i j)) JH))) else .aG|none=>.aG)
    |_=>.aG)
   |_=>.aG) else .aG
  |none=>.aG)
 |_=>.aG
theorem rC {f:Str}(hop:∀X:Cx,P0 X op (λx y H Q=>∃i j,x = .int i/\y = .int j/\Q (.int (g i j)) H))(hf:dH G cs f)(ho:TV G k X o fo)(hv:TV G k X value fv):yS G k X (.AugAssign (.Attribute o f jD) op value pos) (wK cs f g fo fv):=.mk<|λox=>(Hz (ho ox) (hv ox) (hop X)).wk λD σ H h=>by
 obtain⟨w,S,τ,hr,sl,q⟩:=h;refine⟨w,S,τ,hr,sl,(cC.aE q).mono λx H1 Dv=>?_⟩
 obtain⟨w1,S1,t,dh,bO,r1,_,q1⟩:=Dv;split at q1
 ·rename_i n
  split at q1
  ·rename_i c fs ei
   split at q1
   ·rename_i hc
    split at q1
    ·rename_i i eu
     obtain⟨dx,sM,h1,h2⟩:=bO.cell _ _ (e9 ei)
     obtain⟨v,ev,rv⟩:=(gh (k:=f) h2).1 _ eu
     obtain⟨c1,c2⟩:=hf c hc;rw[<-ox.K] at c1 c2;refine⟨_,_,dx,sM,v,r1.c_.2,h1,c1,c2,ev,w1,S1,τ,bO,sl.mono dh,(cC.aE q1).mono λy H2 sU=>?_⟩
     obtain⟨w2,S2,t2,fC,dR,r2,_,q2⟩:=sU;split at q2
     ·rename_i j
      split at q2
      ·rename_i c' JH ei'
       split at q2
       ·rename_i hl
        obtain⟨rfl,hl⟩:=hl;obtain⟨dx',alE,h1',Fx⟩:=dR.cell _ _ (e9 ei')
        have e0:=fC.r _ r1.c_.1;rw[e0] at h1';refine⟨i,_,bh rv,bh r2,dx',alE,h1',by rw[Fx.len];exact hl,q2 w2 _ σ (.refl _) ?_ ((sl.mono dh).mono fC)⟩
        rw[<-e0];exact dR.C8 (e9 ei') rfl rfl ⟨dx',_,az,Fx.gn f dQ⟩
       ·exact q2.elim
      ·exact q2.elim
     ·exact q2.elim
    ·exact q1.elim
   ·exact q1.elim
  ·exact q1.elim
 ·exact q1.elim
theorem rD:∀X:Cx,P0 X .Add (λx y H Q=>∃i j,x = .int i/\y = .int j/\Q (.int (i+j)) H):=λ_=>YD
end
structure Ac where
 items:List Tr
 gF:Cs->Prop
noncomputable def Ri (G:Gx)(w:Wd)(s:Ac)(J:It):Prop:=∀(w1:Wd) (S1:Cs) (H1:Hp) (i:Nat),w.K=w1.K->w.n<=w1.n->(∀i,i<w.n->w1.ρ i=w.ρ i)->(∀b o,w.F b=some o->w1.F b=some o)->HR G w1 S1 H1->s.gF S1 ->
 (∀t,s.items[i]? = some t->J.go i H1/\∀x H2,J.yld i H1 x H2->∃w2,w1.le w2/\HR G w2 S1 H2/\RT w2 t x)/\(i=s.items.length->J.stop i H1)
noncomputable def Rj (G:Gx)(f:En->Cs->R Ac):TI:=λσ H Q=>∃w S τ,HR G w S H/\Sl w τ σ /\ bz (λw s J=>Ri G w s J) G w (f τ S) Q
structure LU (G:Gx) (k:Nat) (X:Cx) (tg dW:Expr) (f:En->Cs->R Ac):Prop where
 jW:ju G k X->PI X tg dW (Rj G f)
noncomputable instance {G:Gx}{k:Nat}{X:Cx}{tg dW:Expr}{f:En->Cs->R Ac}:CoeFun (LU G k X tg dW f) (λ_=>ju G k X->PI X tg dW (Rj G f)):=⟨LU.jW⟩
section
variable {G:Gx}{k:Nat}{X:Cx}{a b c o e tg:Expr}{es:List Expr}{fa fb f:Em}{fr:En->Cs->R (List Tr)}{pos p:Pos}
theorem PI.wk (h:PI X tg dW t)(g:∀ σ H Q,t' σ H Q->t σ H Q):PI X tg dW t':=λah s σ H R I q=>h ah s σ H R I (g _ _ _ q)
theorem RT.wL (hK:w.K=w1.K)(hn:w.n<=w1.n)(iw:∀i,i<w.n->w1.ρ i=w.ρ i)(hF:∀b o,w.F b=some o->w1.F b=some o)(r:RT w t v):RT w1 t v:=
 RT.mono (w:={w with hid:=w1.hid}) ⟨hK.symm,hn,iw,hF,rfl⟩ t v (RT.bB _ t v r)
theorem bK.wL (hK:w.K=w1.K)(hn:w.n<=w1.n)(iw:∀i,i<w.n->w1.ρ i=w.ρ i)(hF:∀b o,w.F b=some o->w1.F b=some o)(r:bK w l xs):bK w1 l xs:=
 bK.mono (w:={w with hid:=w1.hid}) ⟨hK.symm,hn,iw,hF,rfl⟩ l xs (bK.bB _ l xs r)
noncomputable def iL:Tr->Cs->R Ac:=λt S=>match t with
 |.ls l=>.ok ⟨l,λ_=>True⟩ S
 |.kl l=>.ok ⟨l,λ_=>True⟩ S
 |.hd n=>(match cD S n with|some l=>.ok ⟨l,λS'=>cD S' n=some l⟩ S|none=>.aG)
 |_=>.aG
noncomputable def iT:Tr->Cs->R Ac:=λt S=>match t with
 |.tp l=>.ok ⟨l,λ_=>True⟩ S
 |.kt l=>.ok ⟨l,λ_=>True⟩ S
 |_=>.aG
noncomputable def sY (g:Tr->Cs->R Ac)(f:Em):En->Cs->R Ac:=λτ S=>(f τ S).aE λt S1=>g t S1
noncomputable def agB (G:Gx)(w:Wd)(s:Ac)(a:Addr)(l:List Tr):Prop:=s.items=l/\∀(w1:Wd) (S1:Cs) (H1:Hp),w.K=w1.K->w.n<=w1.n->(∀i,i<w.n->w1.ρ i=w.ρ i)->(∀b o,w.F b=some o->w1.F b=some o)->HR G w1 S1 H1->s.gF S1->∃xs,iO G.K H1 a xs/\bK w1 l xs
theorem y_ (hr:HR G w S H)(r:RT w t v)(e:iL t S = .ok s S'):S'=S/\∃a l,v = .ref a/\(∃xs,iO G.K H a xs/\bK w l xs)/\agB G w s a l:=by
 unfold iL at e;split at e
 ·cases e
  unfold RT at r;obtain⟨a,xs,rfl,h,r⟩:=r;exact⟨rfl,a,_,rfl,⟨xs,iO.of (hr.sub _ _ h),r⟩,rfl,λw1 S1 H1 hK hn iw hF bO _=>⟨xs,iO.of (bO.sub _ _ (hF _ _ h)),r.wL hK hn iw hF⟩⟩
 ·cases e
  unfold RT at r;obtain⟨a,xs,rfl,h,r⟩:=r;exact⟨rfl,a,_,rfl,⟨xs,hr.sqL h,r⟩,rfl,λw1 S1 H1 hK hn iw hF bO _=>⟨xs,bO.sqL (by rw[<-hK];exact h.mono hF),r.wL hK hn iw hF⟩⟩
 ·rename_i n
  split at e
  ·rename_i l el
   cases e;obtain⟨xs,h1,h2⟩:=hr.cell _ _ (c9 el)
   have hi:=r.c_;refine⟨rfl,_,l,hi.2,⟨xs,iO.of h1,h2⟩,rfl,λw1 S1 H1 hK hn iw hF bO hc=>?_⟩
   obtain⟨ys,h3,h4⟩:=bO.cell _ _ (c9 hc)
   rw[iw _ hi.1] at h3;exact⟨ys,iO.of h3,h4⟩
  ·cases e
 ·cases e
theorem zd:iL t S ≠ .ex n S':=by
 unfold iL;split<;>(try split)<;>simp
theorem Rk (ha:TV G k X a fa):LU G k X tg a (sY iL fa):=.mk<|λox=>(PB (ha ox)).wk λσ H Q h=>by
 obtain⟨w,S,τ,hr,sl,q⟩:=h;refine⟨w,S,τ,hr,sl,(bz.aE q).mono λx H1 bS=>?_⟩
 obtain⟨w1,S1,t1,dh,bO,r1,_,q1⟩:=bS;cases e:iL t1 S1 with
 |ok s S2 =>
  rw[e] at q1;obtain⟨rfl,p,l,rfl,⟨xs,sq,R⟩,ei,st⟩:=y_ bO r1 e
  refine⟨p,rfl,⟨xs,by rw[ox.K];exact sq⟩,q1 w1 H1 _ (.refl _) bO λw2 S2 H2 i hK hn iw hF dR hc=>?_⟩
  obtain⟨ys,Fy,R2⟩:=st w2 S2 H2 hK hn iw hF dR hc;rw[ei];refine⟨λt et=>?_,λhi=>⟨ys,by rw[ox.K];exact Fy,by rw[R2.len,hi];exact zah _⟩⟩
  obtain⟨v,ev,rv⟩:=R2.get et;refine⟨⟨ys,v,by rw[ox.K];exact Fy,ev⟩,λy H3 dB=>?_⟩
  obtain⟨e3,hy⟩:=dB;subst e3
  have:=hy ys (by rw[ox.K];exact Fy)
  rw[ev] at this;cases this;exact⟨w2,.refl _,dR,rv⟩
 |ex n S2=>exact absurd e zd
 |aG=>rw[e] at q1;exact q1.elim
theorem Z0 (ha:TV G k X a fa):LU G k X tg a (sY iT fa):=.mk<|λox=>(Yo (ha ox)).wk λσ H Q h=>by
 obtain⟨w,S,τ,hr,sl,q⟩:=h;refine⟨w,S,τ,hr,sl,(bz.aE q).mono λx H1 eZ=>?_⟩
 obtain⟨w1,S1,t1,dh,bO,r1,_,q1⟩:=eZ;have go:∀{l:List Tr},UB t1=some l->bz (λw s J=>Ri G w s J) G w1 (.ok ⟨l,λ_=>True⟩ S1) Q->∃a,x = .ref a/\(∃xs,nA X.K H1 a xs)/\Q (Itt X.K a) H1:=λ{l} el q1=>by
  obtain⟨p,xs,rfl,sq,R⟩:=lZ bO r1 el;refine⟨p,rfl,⟨xs,by rw[ox.K];exact sq⟩,q1 w1 H1 _ (.refl _) bO λw2 S2 H2 i hK hn iw hF dR hc=>?_⟩
  obtain⟨_,ys,ep,Fy,R2⟩:=lZ dR (r1.wL hK hn iw hF) el
  cases ep;refine⟨λt et=>?_,λhi=>⟨ys,by rw[ox.K];exact Fy,by rw[R2.len,hi];exact zah _⟩⟩
  obtain⟨v,ev,rv⟩:=R2.get et;refine⟨⟨ys,v,by rw[ox.K];exact Fy,ev⟩,λy H3 iP=>?_⟩
  obtain⟨e3,hy⟩:=iP;subst e3
  have:=hy ys (by rw[ox.K];exact Fy)
  rw[ev] at this;cases this;exact⟨w2,.refl _,dR,rv⟩
 unfold iT at q1;split at q1
 ·exact go rfl q1
 ·exact go rfl q1
 ·exact q1.elim
noncomputable def pS (lo:Int)(n:Nat):List Tr:=(List.range n).map λ(j:Nat)=>Tr.int (lo+j)
noncomputable def sZ (fr:En->Cs->R (List Tr)):En->Cs->R Ac:=λτ S=>(fr τ S).aE λts S1=>match ts with
 |[.int j]=>vN (-(2 ^ 62)<=j/\j<2 ^ 62) (.ok ⟨pS 0 j.toNat,λ_=>True⟩ S1) .aG
 |_=>.aG
theorem Z1 {lo:Int}:Ri G w ⟨pS lo n,λ_=>True⟩ (Itr lo n):=λw2 S2 H2 i hK hn iw hF dR hc=>by
 refine⟨λt et=>?_,λhi=>?_⟩
 ·have et:(pS lo n)[i]? = some t:=et
  unfold pS at et;rw[zaq] at et;have jc:i<n:=by
   cases ec:(List.range n)[i]? with
   |none=>rw[ec] at et;cases et
   |some c=>simpa using (zab.mp ec).1
  rw[zcX jc] at et;cases et;refine⟨jc,λy H3 jH=>?_⟩
  obtain⟨e3,ey⟩:=jH;subst e3;subst ey;exact⟨w2,.refl _,dR,dQ⟩
 ·show n<=i
  have hi:i=(pS lo n).length:=hi
  unfold pS at hi;simp at hi
  omega
theorem oR (hm:X.mg "range"=none)(ha:vO G k X [a] fr)(hg:autoParam (Gl X "range") zp_0)(hs:autoParam (dP a=false) zp_0):LU G k X tg (.Call (.Name "range" p) [a] [] pos) (sZ fr):=.mk<|λox=>(Hv hg hm (ha ox) (eO hs)).wk λσ H Q h=>by
 obtain⟨w,S,τ,hr,sl,q⟩:=h;refine⟨w,S,τ,hr,sl,(bz.aE q).mono λxs H1 jK=>?_⟩
 obtain⟨w1,S1,ts,dh,bO,r1,_,q1⟩:=jK;split at q1
 ·unfold vN at q1
  split at q1
  ·rename_i h
   obtain⟨x,rfl,rx⟩:=fE r1;exact⟨_,by rw[bh rx],h.1,h.2,q1 w1 H1 _ (.refl _) bO Z1⟩
  ·exact q1.elim
 ·exact q1.elim
noncomputable def qF (st:Nat)(l:List Tr):List Tr:=(l.zip (List.range l.length)).map λp=>Tr.tp [.int ((st+p.2:Nat):Int),p.1]
noncomputable def mEn (st:Nat)(fr:En->Cs->R (List Tr)):En->Cs->R Ac:=λτ S=>(fr τ S).aE λts S1=>match ts with
 |[t]=>(iL t S1).aE λs S2=>.ok ⟨qF st s.items,s.gF⟩ S2
 |_=>.aG
theorem wM {st:Nat}{t:Tr}(h:(qF st l)[i]? = some t):∃u,l[i]? = some u/\t = .tp [.int ((st+i:Nat):Int),u]:=by
 unfold qF at h;rw[zaq] at h;cases e:(l.zip (List.range l.length))[i]? with
 |none=>rw[e] at h;cases h
 |some p =>
  rw[e] at h;cases h;obtain⟨u,j⟩:=p;rw[List.getElem?_zip_eq_some] at e;obtain⟨e1,e2⟩:=e;have jc:i<l.length:=(zab.mp e1).1
  rw[zcX jc] at e2;cases e2;exact⟨u,e1,rfl⟩
theorem wN {st:Nat}:(qF st l).length=l.length:=by simp[qF]
theorem agD {st:Nat}(hK:X.K=G.K){Q:It->Hp->Prop}(h:Rj G (mEn st fr) σ H Q):iEn X.K st (Du G fr) σ H Q:=by
 obtain⟨w,S,τ,hr,sl,q⟩:=h;refine⟨w,S,τ,hr,sl,(bz.aE q).mono λxs H1 nF=>?_⟩
 obtain⟨w1,S1,ts,dh,bO,r1,_,q1⟩:=nF;split at q1
 ·rename_i t _
  obtain⟨x,rfl,rx⟩:=fE r1;cases e:iL t S1 with
  |ok s S2 =>
   rw[e] at q1;obtain⟨rfl,p,l,rfl,⟨xs,sq,R⟩,ei,pA⟩:=y_ bO rx e
   refine⟨p,xs,rfl,by rw[hK];exact sq,q1 w1 H1 _ (.refl _) bO λw2 S2 H2 i hK2 hn iw hF dR hc=>?_⟩
   obtain⟨ys,Fy,R2⟩:=pA w2 S2 H2 hK2 hn iw hF dR hc;refine⟨λt et=>?_,λhi=>⟨ys,by rw[hK];exact Fy,?_⟩⟩
   ·obtain⟨u,eu,rfl⟩:=wM et
    rw[ei] at eu;obtain⟨v,ev,rv⟩:=R2.get eu;refine⟨⟨ys,v,by rw[hK];exact Fy,ev⟩,λy H3 iS=>?_⟩
    obtain⟨T,z,hT,ey,eH,hz⟩:=iS
    have:=hz ys (by rw[hK];exact Fy)
    rw[ev] at this;cases this;subst ey;subst eH;obtain⟨h3,lV⟩:=dR.lay hT (.gS [.int ((st+i:Nat):Int),v])
    refine⟨_,lV,h3,?_⟩
    unfold RT;exact⟨T,_,rfl,az,.cons dQ (.cons (RT.mono lV _ _ rv) .nil)⟩
   ·have hi:i=(qF st s.items).length:=hi
    rw[wN,ei] at hi;rw[R2.len,hi]
  |ex n S2=>exact absurd e zd
  |aG=>rw[e] at q1;exact q1.elim
 ·exact q1.elim
theorem FA {x1}(hm:X.mg "enumerate"=none)(ha:vO G k X [a] fr)(hg:autoParam (Gl X "enumerate") zp_0)(hs:autoParam (dP a=false) zp_0):LU G k X (.Tuple QF x1 tp) (.Call (.Name "enumerate" p) [a] [] pos) (mEn 0 fr):=.mk<|λox=>(QJ hg hm (ha ox) (eO hs)).wk λσ H Q h=>agD ox.K h
noncomputable def UH (r:RS)(g:Sm):RS:=match r with|.nx τ S=>g τ S|.ct τ S=>g τ S|.bk τ S=>.nx τ S|.rt t S=>.rt t S|.ex n S=>.ex n S|.aG=>.aG
open Classical in
noncomputable def fP (gF:Cs->Prop)(b:Tr->En->Cs->R En)(f:Sm):List Tr->En->Cs->RS
 |[],τ,S=>if gF S then .nx τ S else .aG
 |t::r,τ,S=>if gF S then (b t τ S).bP λdU S1=>UH (f dU S1) (fP gF b f r) else .aG
noncomputable def pT (fi:En->Cs->R Ac)(b:Tr->En->Cs->R En)(f:Sm):Sm:=λτ S=>(fi τ S).bP λs S1=>fP s.gF b f s.items τ S1
theorem Rl (h:cC G w (UH r g) D)(hN:∀w' H' dS τ S,w.le w'->HR G w' S H'->Sl w' τ dS->cC G w' (g τ S) D->N dS H'):cC G w r {D with nx:=N,ct:=N,bk:=D.nx}:=by
 cases r with
 |nx τ S=>exact λw' H' dS le hr sl=>hN w' H' dS τ S le hr sl (cC.wd le h)
 |ct τ S=>exact λw' H' dS le hr sl=>hN w' H' dS τ S le hr sl (cC.wd le h)
 |bk τ S=>exact h
 |rt τ S=>exact h
 |ex τ S=>exact h
 |aG=>exact h
theorem ku (hp:PassesOwn (model X.prog X.w) X.A X.env X.xe)(hi:LU G k X tg dW fi)(hg:Lz G k X tg bt)(hb:Ic G k X body sb)(hs:autoParam (∀x,foldedSetIterable dW X.env x=pure x) zp_3)(hk:autoParam (0<k) zp_2):yS G k X (.For tg dW body [] pos) (pT fi bt sb):=.mk<|λox =>
 (Yp hp (ox.fQ hk) (hi ox) (hg ox) (hb ox) hs).wk λD σ H h=>by
  obtain⟨w,S,τ,hr,sl,q⟩:=h;refine⟨w,S,τ,hr,sl,(cC.aE q).mono λJ H1 nG=>?_⟩
  obtain⟨w1,S1,s,dh,bO,it,_,q1⟩:=nG;refine⟨λi m z_ H2=>∃w2 S2 jT,w1.le w2/\HR G w2 S2 H2/\Sl w2 jT z_/\i<=s.items.length/\m=s.items.length - i/\cC G w2 (fP s.gF bt sb (s.items.drop i) jT S2) D,⟨_,w1,S1,τ,.refl _,bO,sl.mono dh,zcF _,rfl,q1⟩,?_⟩
  rintro i m z_ H2 ⟨w2,S2,jT,fC,dR,Kz,hi,rfl,q2⟩
  by_cases jc:i<s.items.length
  ·have ed:s.items.drop i=s.items[i]::s.items.drop (i+1):=zcu jc
   rw[ed] at q2;unfold fP at q2;split at q2
   ·rename_i hc
    obtain⟨go,yl⟩:=(it w2 S2 H2 i fC.K.symm fC.n fC.r fC.F dR hc).1 s.items[i] (zae jc)
    refine .inr ⟨go,λdS H'=>∃m',m' < s.items.length - i/\∃w2 S2 jT,w1.le w2/\HR G w2 S2 H'/\Sl w2 jT dS/\i+1<=s.items.length/\m'=s.items.length - (i+1)/\cC G w2 (fP s.gF bt sb (s.items.drop (i+1)) jT S2) D,λdS H' h=>h,λx H' hy=>?_⟩
    obtain⟨w3,lV,pM,r3⟩:=yl x H' hy;refine⟨w3,S2,jT,_,pM,Kz.mono lV,r3,(cC.aE (cC.wd lV q2)).mono λσ4 H4 ⟨w4,S4,CK,LB,JM,sl4,_,q4⟩=>⟨w4,S4,CK,JM,sl4,Rl q4 λw5 H5 σ5 τ5 S5 le5 hr5 sl5 q5=>?_⟩⟩
    exact⟨_,by omega,w5,S5,τ5,((fC.trans lV).trans LB).trans le5,hr5,sl5,jc,rfl,q5⟩
   ·exact q2.elim
  ·have e:i=s.items.length:=by omega
   subst e;rw[List.drop_length] at q2;unfold fP at q2;split at q2
   ·rename_i hc
    exact .inl ⟨(it w2 S2 H2 _ fC.K.symm fC.n fC.r fC.F dR hc).2 rfl,q2 w2 H2 z_ (.refl _) dR Kz⟩
   ·exact q2.elim
end
noncomputable def Gx.nx (G:Gx):Gx:={G with E:=E0}
theorem bH.nx:bH G.nx w H a c↔bH G w H a c:=by cases c<;>exact Iff.rfl
theorem HR.nx (h:HR G w S H):HR G.nx w S H:=⟨h.K,h.n,h.F,λi c e=>bH.nx.mpr (h.cell i c e),h.inj,h.hid,h.jJ,h.hl⟩
theorem HR.unx (h:HR G.nx w S H):HR G w S H:=⟨h.K,h.n,h.F,λi c e=>bH.nx.mp (h.cell i c e),h.inj,h.hid,h.jJ,h.hl⟩
noncomputable def jd {α:Type}(r:R α):R α:= match r with|.ok a s=>.ok a s|_=>.aG
noncomputable def jy (fr:List Nat)(n:Nat)(τ:En):En:=(fr.map λj=>(τ[j]?).join)++List.replicate n none
noncomputable def jj:En->Cs->R Bool:=λ_ S=>.ok true S
open Classical in
noncomputable def cY (gF:Cs->Prop)(b:Tr->En->Cs->R En)(c:En->Cs->R Bool)(f:Em):List Tr->En->List Tr->Cs->R (List Tr)
 |[],_,cg,S=>if gF S then .ok cg S else .aG
 |t::r,τ,cg,S=>if gF S then (jd (b t τ S)).aE λdU S1=>(jd (c dU S1)).aE λx S2=>if x=true then (jd (f dU S2)).aE λu S3=>(if cg.length<sizeLine then cY gF b c f r dU (cg++[u]) S3 else .aG) else cY gF b c f r dU cg S2 else .aG
noncomputable def gi (fi:En->Cs->R Ac)(fr:List Nat)(n:Nat)(b:Tr->En->Cs->R En)(c:En->Cs->R Bool)(f:Em):Em:=λτ S=>(fi τ S).aE λs S1=>(cY s.gF b c f s.items (jy fr n τ) [] S1).aE λl S2=>.ok (.ls l) S2
structure Il (G:Gx) (k:Nat) (X:Cx) (qQ:List Expr) (c:En->Cs->R Bool):Prop where
 jW:ju G k X->Dh X qQ (AM G c)
noncomputable instance {G:Gx}{k:Nat}{X:Cx}{qQ:List Expr}{c:En->Cs->R Bool}:CoeFun (Il G k X qQ c) (λ_=>ju G k X->Dh X qQ (AM G c)):=⟨Il.jW⟩
section
variable {G:Gx}{k:Nat}{X:Cx}
theorem Rm:Il G k X [] jj:=.mk<|λ_ ah s σ H Q I bS=>by obtain⟨w,S,τ,hr,sl,q⟩:=bS;exact Qs ah s σ H Q I (q w H _ (.refl w) hr rfl)
theorem Rn (h:CH G k X c t):Il G k X [c] t:=.mk<|λo=>Qt (h o)
theorem ju.comp (o:ju G k X):ju G.nx k (qx X N sc C fp s H xe):=⟨o.K,o.fQ,o.room,o.un⟩
theorem Ro (sl:Sl w τ σ)(j:Nat)(h:(τ[j]?).join=some t):∃v,(σ[j]?).join=some v/\RT w t v:=by
 have e:τ[j]? = some (some t):=by
  cases q:τ[j]? with
  |none=>rw[q] at h;cases h
  |some x=>rw[q] at h;cases x with
   |none=>cases h
   |some y=>cases h;rfl
 obtain⟨v,ev,rv⟩:=sl.qO j t e;exact⟨v,by rw[ev];rfl,rv⟩
theorem Sl.comp (sl:Sl w τ σ)(fr:List Nat)(T:List Str):Sl w (jy fr T.length τ) (j6 fr T σ):=by
 unfold jy j6;refine⟨by simp,λi t e=>?_⟩
 by_cases hi:i<fr.length
 ·rw[zaj (by simpa using hi),zaq] at e
  rw[zaj (by simpa using hi),zaq]
  rw[zae hi] at e ⊢
  have e1:(τ[fr[i]]?).join=some t:=by simpa using e
  obtain⟨v,ev,rv⟩:=Ro sl _ e1;exact⟨v,by simp[ev],rv⟩
 ·rw[zat (by simpa using hi)] at e
  rw[zcE] at e;split at e<;>cases e
variable {F T:List Str}{fr:List Nat}{sc:Scope}{vJ target dW:Expr}{qQ:List Expr}{pos:Pos}{fi:En->Cs->R Ac}{bt:Tr->En->Cs->R En}{fc:En->Cs->R Bool}{fe:Em}
inductive Z2|val|cel
noncomputable def Z2.dN:Z2->List Tr->Cs->R Tr|.val,l,S=>.ok (.ls l) S|.cel,l,S=>.ok (.hd S.length) (S++[.bM l])
theorem FD (ce:Z2)(hK:X.K=G.K)(h:fO G (λτ S=>(fi τ S).aE λs S1=>(cY s.gF bt fc fe s.items (jy fr T.length τ) [] S1).aE λl S2=>ce.dN l S2) σ H Q):
  E_ (Rj G fi) fr T (Zv G.nx bt) (AM G.nx fc) (fO G.nx fe) σ H Q:=by
 obtain⟨w,S,τ,hr,sl,q⟩:=h;refine⟨w,S,τ,hr,sl,(bz.aE q).mono λJ H1 ⟨w1,S1,s,dh,bO,it,_,q1⟩=>λD hD=>?_⟩
 have hhD:=bO.Fg hD;refine⟨λi m z_ xs H2=>∃w2 S2 jT cg,w2.hid=bF w1.hid D (.bM xs)/\w2.K=w1.K/\w1.n<=w2.n/\(∀i,i<w1.n->w2.ρ i=w1.ρ i)/\(∀b o,w1.F b=some o->w2.F b=some o)/\HR G w2 S2 H2/\Sl w2 jT z_/\bK w2 cg xs/\i<=s.items.length/\m=s.items.length - i /\
   bz RT G w1 ((cY s.gF bt fc fe (s.items.drop i) jT cg S2).aE λl S3=>ce.dN l S3) Q,?_,?_⟩
 ·refine⟨_,{w1 with hid:=bF w1.hid D (.bM [])},S1,_,[],rfl,rfl,zah _,λ_ _=>rfl,λ_ _ e=>e,bO.aly hD _ (λ_ z=>by cases z),?_,.nil,zcF _,rfl,q1⟩
  have:=(sl.mono dh).comp fr T
  exact⟨this.len,λi t e=>let ⟨v,ev,rv⟩:=this.qO i t e;⟨v,ev,RT.bB _ t v rv⟩⟩
 ·rintro i m z_ xs H2 ⟨w2,S2,jT,cg,eh,eK,hn,iw,hF,dR,Kz,ra,hi,rfl,q2⟩
  have hDx:w2.hid D=some (.bM xs):=by rw[eh];exact az
  refine⟨dR.hid D _ hDx,?_⟩
  by_cases jc:i<s.items.length
  ·have ed:s.items.drop i=s.items[i]::s.items.drop (i+1):=zcu jc
   rw[ed] at q2;unfold cY at q2;split at q2
   ·rename_i hc
    obtain⟨go,yl⟩:=(it w2 S2 H2 i eK.symm hn iw hF dR hc).1 s.items[i] (zae jc)
    refine .inr ⟨go,λdS ys H'=>∃m',m' < s.items.length - i/\∃w2 S2 jT cg,w2.hid=bF w1.hid D (.bM ys)/\w2.K=w1.K/\w1.n<=w2.n/\(∀i,i<w1.n->w2.ρ i=w1.ρ i)/\(∀b o,w1.F b=some o->w2.F b=some o)/\HR G w2 S2 H'/\Sl w2 jT dS/\bK w2 cg ys/\i+1<=s.items.length/\m'=s.items.length - (i+1) /\
     bz RT G w1 ((cY s.gF bt fc fe (s.items.drop (i+1)) jT cg S2).aE λl S3=>ce.dN l S3) Q,λdS ys H' h=>h,λx H' hy=>?_⟩
    obtain⟨w3,lV,pM,r3⟩:=yl x H' hy;refine⟨w3,S2,jT,_,pM.nx,Kz.mono lV,r3,?_⟩
    cases eb:bt s.items[i] jT S2 with
    |ok CK S4 =>
     rw[eb] at q2;intro w4 H4 σ4 LB JM sl4;refine⟨w4,S4,CK,JM,sl4,?_⟩
     have q2:bz RT G w1 (((jd (fc CK S4)).aE λx S2=>if x=true then (jd (fe CK S2)).aE λu S3=>(if cg.length<sizeLine then cY s.gF bt fc fe (s.items.drop (i+1)) CK (cg++[u]) S3 else .aG) else cY s.gF bt fc fe (s.items.drop (i+1)) CK cg S2).aE λl S3=>ce.dN l S3) Q:=q2
     cases ec:fc CK S4 with
     |ok bb S5 =>
      rw[ec] at q2;have q2:bz RT G w1 ((if bb=true then (jd (fe CK S5)).aE λu S3=>(if cg.length<sizeLine then cY s.gF bt fc fe (s.items.drop (i+1)) CK (cg++[u]) S3 else .aG) else cY s.gF bt fc fe (s.items.drop (i+1)) CK cg S5).aE λl S3=>ce.dN l S3) Q:=q2
      intro w5 H5 b' le5 hr5 eb';subst eb';have DE:=(lV.trans LB).trans le5
      have AZ:w5.hid=bF w1.hid D (.bM xs)/\w5.K=w1.K/\w1.n<=w5.n/\(∀i,i<w1.n->w5.ρ i=w1.ρ i)/\(∀b o,w1.F b=some o->w5.F b=some o):=⟨DE.hid.trans eh,DE.K.trans eK,zai hn DE.n,λi hi=>(DE.r i (zal hi hn)).trans (iw i hi),λb o e=>DE.F b o (hF b o e)⟩
      cases bb with
      |true =>
       rw[if_pos rfl] at q2;refine AA ⟨w5,S5,CK,hr5,sl4.mono le5,?_⟩
       cases ef:fe CK S5 with
       |ok u S6 =>
        rw[ef] at q2;have q2:bz RT G w1 ((if cg.length<sizeLine then cY s.gF bt fc fe (s.items.drop (i+1)) CK (cg++[u]) S6 else .aG).aE λl S3=>ce.dN l S3) Q:=q2
        intro w6 H6 v le6 hr6 r6;have DF:=DE.trans le6;split at q2
        ·rename_i dm
         have ra6:=bK.mono DF _ _ ra;have hD6:w6.hid D=some (.bM xs):=by rw[DF.hid];exact hDx
         have e6:w6.hid=bF w1.hid D (.bM xs):=DF.hid.trans eh
         refine⟨hr6.unx.hid D _ hD6,by rw[ra.len];exact dm,_,by omega,{w6 with hid:=bF w6.hid D (.bM (xs++[v]))},S6,CK,cg++[u],?_,DF.K.trans eK,zai hn DF.n,λi hi=>(DF.r i (zal hi hn)).trans (iw i hi),λb o e=>DF.F b o (hF b o e),hr6.unx.Zs hD6 _ (λ_ z=>by cases z),?_,?_,jc,rfl,q2⟩
         ·show bF w6.hid D _=_
          rw[e6,EN]
         ·have:=(sl4.mono le5).mono le6
          exact⟨this.len,λi t e=>let ⟨v,ev,rv⟩:=this.qO i t e;⟨v,ev,RT.bB _ t v rv⟩⟩
         ·exact bK.bB _ _ _ (ra6.snoc r6)
        ·exact q2.elim
       |ex n S6=>rw[ef] at q2;exact q2.elim
       |aG=>rw[ef] at q2;exact q2.elim
      |false =>
       rw[if_neg zak] at q2;refine Az ⟨_,by omega,w5,S5,CK,cg,AZ.1,AZ.2.1,AZ.2.2.1,AZ.2.2.2.1,AZ.2.2.2.2,hr5.unx,sl4.mono le5,bK.mono DE _ _ ra,jc,rfl,q2⟩
     |ex n S5=>rw[ec] at q2;exact q2.elim
     |aG=>rw[ec] at q2;exact q2.elim
    |ex n S4=>rw[eb] at q2;exact q2.elim
    |aG=>rw[eb] at q2;exact q2.elim
   ·exact q2.elim
  ·have e:i=s.items.length:=by omega
   subst e;rw[List.drop_length] at q2;unfold cY at q2;split at q2
   ·rename_i hc
    refine .inl ⟨(it w2 S2 H2 _ eK.symm hn iw hF dR hc).2 rfl,?_⟩
    have hF2:w2.F D=none:=by rw[dR.F];unfold Fz;rw[if_pos (.inr (by rw[hDx];simp))]
    cases ce with
    |val =>
     have q2:bz RT G w1 (.ok (.ls cg) S2) Q:=q2
     refine q2 _ _ _ ?_ (dR.af9 eh hhD) ?_
     ·exact⟨eK,hn,iw,λb o e=>j9 hF2 (hF b o e),rfl⟩
     ·unfold RT
      exact⟨D,xs,rfl,az,bK.wL (w:=w2) rfl (zah _) (λ_ _=>rfl) (λb o e=>j9 hF2 e) ra⟩
    |cel =>
     have q2:bz RT G w1 (.ok (.hd S2.length) (S2++[.bM cg])) Q:=q2
     have lu:=({w2 with hid:=w1.hid}:Wd).sN D
     refine q2 _ _ _ ?_ (dR.QV eh hhD (c:=.bM cg) rfl ⟨xs,dR.hid D _ hDx,?_⟩) ?_
     ·exact⟨eK,zai hn lu.n,λi hi=>(lu.r i (zal hi hn)).trans (iw i hi),λb o e=>hF b o e,rfl⟩
     ·exact bK.mono lu _ _ (bK.bB _ _ _ ra)
     ·unfold RT
      refine⟨by show S2.length<w2.n+1;rw[dR.n];exact zbj _,?_⟩
      show V.ref D=V.ref (if S2.length=w2.n then D else w2.ρ S2.length)
      rw[if_pos dR.n.symm]
   ·exact q2.elim
theorem iB (S:dw X F T fr sc)(hi:LU G k X target dW fi)(hg:∀C fp s H xe,Lz G.nx k (qx X (F++T) sc C fp s H xe) target bt)(Qu:∀C fp s H xe,Il G.nx k (qx X (F++T) sc C fp s H xe) qQ fc)
  (he:∀C fp s H xe,TV G.nx k (qx X (F++T) sc C fp s H xe) vJ fe) (hs:autoParam (∀x,foldedSetIterable dW X.env x=pure x) zp_3) (hk:autoParam (0<k) zp_2):TV G k X (.ListComp vJ [⟨target,dW,qQ,0⟩] sc pos) (gi fi fr T.length bt fc fe):=.mk<|λo =>
 (Qy S (o.fQ hk) (hi o) (λC fp s H xe=>hg C fp s H xe o.comp) (λC fp s H xe=>Qu C fp s H xe o.comp) (λC fp s H xe=>he C fp s H xe o.comp) hs).wk λ_ _ _ h=>FD .val o.K h
theorem ze (S:dw X F T fr sc)(hi:LU G k X target dW fi)(hg:∀C fp s H xe,Lz G.nx k (qx X (F++T) sc C fp s H xe) target bt)(Qu:∀C fp s H xe,Il G.nx k (qx X (F++T) sc C fp s H xe) qQ fc)
  (he:∀C fp s H xe,TV G.nx k (qx X (F++T) sc C fp s H xe) vJ fe) (hN:X.N.Nodup) (hiy:X.N[i0]? = some y) (hly:X.env.scope.names.lookup y=some .local) (hex:X.ex=[])
  (QL:autoParam (swapsWith (.ListComp vJ [⟨target,dW,qQ,0⟩] sc pos) (some (.Name y py)) Zc.line X.env=pure true) zp_0) (hs:autoParam (∀x,foldedSetIterable dW X.env x=pure x) zp_3) (hk:autoParam (0<k) zp_2):
  yS G k X (.Assign [.Name y py] (.ListComp vJ [⟨target,dW,qQ,0⟩] sc pos) Zc) (aX i0 (gi fi fr T.length bt fc fe)):=.mk<|λo =>
 (QK S (o.fQ hk) (hi o) (λC fp s H xe=>hg C fp s H xe o.comp) (λC fp s H xe=>Qu C fp s H xe o.comp) (λC fp s H xe=>he C fp s H xe o.comp) hN hiy hly hex QL hs).wk λD σ H h=>FD .val o.K (LR h)
end
noncomputable abbrev Fn:=List Tr->Cs->R Tr
noncomputable def dz (K:W.Frag)(cl:Str->Addr)(n:Nat)(q:Fn):Sp:=λvs H Q E=>∃w S ts,HR ⟨K,cl,E⟩ w S H/\bK w ts vs/\ts.length=n/\bz RT ⟨K,cl,E⟩ w (q ts S) Q
noncomputable def gj (n:Nat)(q:Fn)(fr:En->Cs->R (List Tr)):Em:=λτ S=>(fr τ S).aE λts S1=>if ts.length=n then q ts S1 else .aG
section
variable {G:Gx}{k j n:Nat}{X:Cx}{CX:CA}{f C:Addr}{fd:FuncData}{ps:List Str}{q:Fn}{x m:Str}{p pos fN gU:Pos}{e o:Expr}{es:List Expr}{fr:En->Cs->R (List Tr)}{fo:Em}
theorem agF (h:fO G (gj n q fr) σ H Q):Uh (dz G.K G.cl n q) [] G.E (Du G fr) σ H Q:=by
 obtain⟨w,S,τ,hr,sl,qq⟩:=h;refine⟨w,S,τ,hr,sl,(bz.aE qq).mono λvs H1 bS=>?_⟩
 obtain⟨w1,S1,ts,dh,bO,r1,_,q1⟩:=bS;split at q1
 ·rename_i hn
  rw[zaz];exact⟨w1,S1,ts,bO,r1,hn,q1⟩
 ·exact q1.elim
theorem Rp (F:aN X.prog X.w X.K X.mg X.base CX j f fd ps (dz G.K G.cl n q))(hj:j<=k)(hm:X.mg x=some (.ref f))(hk:W.keepIn X.K (.ref f)=true)(hb:eB X.K fd ps [])(hx:gb CX X G.E)(ha:vO G k X (e::es) fr)
  (hg:autoParam (Gl X x) zp_0) (sf:autoParam ((x == ("__debug__" : Str))=false) zp_1) (he:autoParam (dP e=false) zp_0) (iA:autoParam (dc es=true) zp_0) (Ae:autoParam (0<k) zp_2):
  TV G k X (.Call (.Name x p) (e::es) [] pos) (gj n q fr):=.mk<|λox=>(P4 F ((ox.room Ae).mono hj) hg hm hk hb .nil hx (ha ox) sf (eO he) (gr iA)).wk λ_ _ _ h=>agF h
noncomputable def aF (c m:Str)(n:Nat)(q:Fn)(fo:Em)(fr:En->Cs->R (List Tr)):Em:=λτ S=>(fo τ S).aE λt S1=>match t with
 |.hd i=>(match iy S1 i with
  |some (c',fs)=>if c'=c/\(aQ m fs).isNone=true then (fr τ S1).aE λts S2=>(if (t::ts).length=n then q (t::ts) S2 else .aG) else .aG
  |none=>.aG)
 |_=>.aG
theorem FE (h:fO G (aF c m n q fo fr) σ H Q):E2 (G.cl c) m (dz G.K G.cl n q) [] G.E (fO G fo) (Du G fr) σ H Q:=by
 obtain⟨w,S,τ,hr,sl,qq⟩:=h;refine⟨w,S,τ,hr,sl,(bz.aE qq).mono λv H1 dB=>?_⟩
 obtain⟨w1,S1,t,dh,bO,r1,_,q1⟩:=dB;split at q1
 ·split at q1
  ·rename_i c' fs ei
   split at q1
   ·rename_i hc
    obtain⟨rfl,hm⟩:=hc;obtain⟨dx,sM,h1,h2⟩:=bO.cell _ _ (e9 ei)
    refine⟨_,dx,sM,r1.c_.2,h1,(gh (k:=m) h2).2 (zdw.mp hm),w1,S1,τ,bO,sl.mono dh,(bz.aE q1).mono λvs H2 eZ=>?_⟩
    obtain⟨w2,S2,ts,fC,dR,r2,_,q2⟩:=eZ;split at q2
    ·rename_i hn
     rw[zaz];exact⟨w2,S2,_,dR,.cons (RT.mono fC _ _ r1) r2,hn,q2⟩
    ·exact q2.elim
   ·exact q1.elim
  ·exact q1.elim
 ·exact q1.elim
theorem aY (hc:vE G.K (G.cl c))(hM:cI G.K (G.cl c) m f)(F:aN X.prog X.w X.K X.mg X.base CX j f fd ps (dz G.K G.cl n q))(hj:j<=k)(hb:eB X.K fd ps [])(hx:gb CX X G.E)(ho:TV G k X o fo)(ha:vO G k X (e::es) fr)
  (qm:autoParam (dP e=false) zp_0) (iA:autoParam (dc es=true) zp_0)
  (ht:autoParam (eval (.Call (.Attribute o m fN) (e::es) [] pos) X.env=(do
   let ov <-eval o X.env
   standAt fN.atName
   let (f,first) <-holding [ov] (getMethod ov m pl)
   callWith pos f first (backTo pos (starEach (e::es) X.env)) (backToKw pos (keywordEach [] X.env)))) zp_0) (Ae:autoParam (0<k) zp_2):TV G k X (.Call (.Attribute o m fN) (e::es) [] pos) (aF c m n q fo fr):=.mk<|λox =>
 (P5 (ho ox) (by rw[ox.K];exact hc) (by rw[ox.K];exact hM) F ((ox.room Ae).mono hj) hb .nil hx (ha ox) (eO qm) (gr iA) ht).wk λ_ _ _ h=>FE h
theorem aK (hc:vE G.K (G.cl c))(hM:cI G.K (G.cl c) m f)(F:aN X.prog X.w X.K X.mg X.base CX j f fd ps (dz G.K G.cl n q))(hj:j<=k)(hb:eB X.K fd ps [])(hx:gb CX X G.E)(ho:TV G k X o fo)
  (ht:autoParam (eval (.Call (.Attribute o m fN) [] [] pos) X.env=(do
   let ov <-eval o X.env
   standAt fN.atName
   let (f,first) <-holding [ov] (getMethod ov m pl)
   callWith pos f first (backTo pos (starEach [] X.env)) (backToKw pos (keywordEach [] X.env)))) zp_0) (Ae:autoParam (0<k) zp_2):TV G k X (.Call (.Attribute o m fN) [] [] pos) (aF c m n q fo ak):=.mk<|λox =>
 (Km (ho ox) (by rw[ox.K];exact hc) (by rw[ox.K];exact hM) F ((ox.room Ae).mono hj) hb .nil hx ht).wk λσ H Q h=>by
  obtain⟨w,S,τ,hr,sl,qq⟩:=FE h;refine⟨w,S,τ,hr,sl,qq.mono λv H1 ⟨a,dx,fs,e1,h1,hl,⟨w1,S1,dU,bO,HU,q1⟩⟩=>⟨a,dx,fs,e1,h1,hl,?_⟩⟩
  exact q1 w1 H1 [] (.refl _) bO .nil
noncomputable def nu (c:Str)(n:Nat)(q:Fn)(fr:En->Cs->R (List Tr)):Em:=λτ S=>(fr τ S).aE λts S1=>if ts.length+1=n then (q (.hd S1.length::ts) (S1++[.d_ c []])).aE λr S2=>(match r with|.bu=>.ok (.hd S1.length) S2|_=>.aG) else .aG
theorem Rq (h:fO G (nu c n q fr) σ H Q):Ui (G.cl c) (dz G.K G.cl n q) [] G.E (Du G fr) σ H Q:=by
 obtain⟨w,S,τ,hr,sl,qq⟩:=h;refine⟨w,S,τ,hr,sl,(bz.aE qq).mono λvs H1 ⟨w1,S1,ts,dh,bO,r1,_,q1⟩=>λx dx hx hdx ne=>?_⟩
 split at q1
 ·rename_i hn
  obtain⟨h2,fC⟩:=bO.lay hdx (.rO x)
  have hx2:bF H1 dx (.rO x) x=none:=by rw[au (zbd ne)];exact hx
  obtain⟨h3,lV⟩:=h2.Ib hx2 (o:=.d_ (G.cl c) dx []) (c:=.d_ c []) rfl ⟨dx,[],az,.nil⟩
  have iw:(({w1 with F:=bF w1.F dx (.rO x)}:Wd).up x).ρ S1.length=x:=by
   show (if S1.length=w1.n then x else w1.ρ S1.length)=x
   rw[if_pos bO.n.symm]
  rw[zaz];refine⟨_,_,.hd S1.length::ts,h3,.cons ?_ (bK.mono (fC.trans lV) _ _ r1),by simpa using hn,(bz.aE (bz.wd (fC.trans lV) q1)).mono λv H4 ⟨w4,S4,t4,LB,JM,r4,_,q4⟩=>?_⟩
  ·unfold RT
   exact⟨by show S1.length<w1.n+1;rw[bO.n];exact zbj _,by rw[iw]⟩
  ·split at q4
   ·refine⟨ko r4,q4 w4 H4 _ (.refl _) JM ?_⟩
    have jc:S1.length<(({w1 with F:=bF w1.F dx (.rO x)}:Wd).up x).n:=by show S1.length<w1.n+1;rw[bO.n];exact zbj _
    unfold RT;exact⟨zal jc LB.n,by rw[LB.r _ jc,iw]⟩
   ·exact q4.elim
 ·exact q1.elim
theorem mO (M:Mk G.K (G.cl c) f)(F:aN X.prog X.w X.K X.mg X.base CX j f fd ps (dz G.K G.cl n q))(hj:j+1<=k)(hm:X.mg x=some (.ref (G.cl c)))(hb:eB X.K fd ps [])(hx:gb CX X G.E)(ha:vO G k X (e::es) fr)
  (hg:autoParam (Gl X x) zp_0) (sf:autoParam ((x == ("__debug__" : Str))=false) zp_1) (he:autoParam (dP e=false) zp_0) (iA:autoParam (dc es=true) zp_0) (Ae:autoParam (0<k) zp_2):
  TV G k X (.Call (.Name x p) (e::es) [] pos) (nu c n q fr):=.mk<|λox=>(P6 (by rw[ox.K];exact M) F ((ox.room Ae).mono hj) hg hm hb .nil hx (ha ox) sf (eO he) (gr iA)).wk λ_ _ _ h=>Rq h
noncomputable def gy (N:List Str)(ts:List Tr):En:=ts.map some++List.replicate (N.length - ts.length) none
noncomputable def cV (N:List Str)(sb:Sm):Fn:=λts S=>match sb (gy N ts) S with|.nx _ S'=>.ok .bu S' | .rt t S'=>.ok t S' | _=>.aG
theorem Sl.cS (N:List Str)(r:bK w ts vs):Sl w (gy N ts) (cS N vs):=by
 unfold gy L2.cS;refine⟨by simp[r.len],λi t e=>?_⟩
 by_cases hi:i<ts.length
 ·rw[zaj (by simpa using hi),zaq] at e
  rw[zaj (by rw[zac,r.len];exact hi),zaq]
  cases et:ts[i]? with
  |none=>rw[et] at e;cases e
  |some u =>
   rw[et] at e;cases e;obtain⟨v,ev,rv⟩:=r.get et;exact⟨v,by rw[ev];rfl,rv⟩
 ·rw[zat (by simpa using hi)] at e
  rw[zcE] at e;split at e<;>cases e
variable {P:Program}{w:World}{K:W.Frag}{mg:Str->Option Value}{base:Heap}{cl:Str->Addr}{N:List Str}{b_:Str}{st:Stmt}{sb:Sm}
theorem aZ (F:KS K x b_ st f fd)(Sc:aq N ps (aj st))
  (hb:∀eY A outer s H E,Ic ⟨K,cl,E0⟩ k (je dM P w K mg base N b_ (aj st) f eY A outer s H E).Cz (cP st) sb):aN P w K mg base dM (k+1) f fd ps (dz K cl ps.length (cV N sb)):=by
 refine F.ok Sc (λvs H Q E jH=>by obtain⟨w,S,ts,hr,r,hn,_⟩:=jH;rw[r.len,hn]) λeY A outer s H vs Q E hr jK=>?_
 obtain⟨w,S,ts,Pe,r,hn,q⟩:=jK;refine⟨_,hb eY A outer s H E ⟨rfl,λ_=>rfl,λ_=>hr,zcA (Nat.add_le_add_right (zcl _ _) 200) hr.un⟩,w,S,gy N ts,⟨Pe.K,Pe.n,Pe.F,λi c e=>Pe.nx.cell i c e,Pe.inj,Pe.hid,Pe.jJ,Pe.hl⟩,Sl.cS N r,?_⟩
 have conv:∀{w' S' H'},HR (⟨K,cl,E0⟩:Gx) w' S' H'->HR ⟨K,cl,E⟩ w' S' H':=λh=>HR.unx (G:=⟨K,cl,E⟩) h
 unfold cV at q;cases e:sb (gy N ts) S with
 |nx oS S'=>rw[e] at q;exact λw' H' dS le qW JX=>q w' H' _ le (conv qW) sP
 |rt t S'=>rw[e] at q;exact λw' H' v le qW rv=>q w' H' v le (conv qW) rv
 |bk oS S'=>rw[e] at q;exact q.elim
 |ct oS S'=>rw[e] at q;exact q.elim
 |ex oS S'=>rw[e] at q;exact q.elim
 |aG=>rw[e] at q;exact q.elim
mutual
noncomputable def Tr.aE (m:Nat):Tr->Bool
 |.tp l=>Tr.jz m l
 |.ls l=>Tr.jz m l
 |.kt l=>Tr.jz m l
 |.kl l=>Tr.jz m l
 |.hd n=>decide (n<m)
 |_=>true
noncomputable def Tr.jz (m:Nat):List Tr->Bool
 |[]=>true
 |t::l=>Tr.aE m t && Tr.jz m l
end
mutual
theorem RT.aE {w:Wd}:∀(t:Tr) (v:V),RT w t v->t.aE w.n=true
 |.tp l,v,r=>by unfold RT at r;unfold Tr.aE;obtain⟨_,xs,_,_,r⟩:=r;exact bK.aE l xs r
 |.ls l,v,r=>by unfold RT at r;unfold Tr.aE;obtain⟨_,xs,_,_,r⟩:=r;exact bK.aE l xs r
 |.kt l,v,r=>by unfold RT at r;unfold Tr.aE;obtain⟨_,xs,_,_,r⟩:=r;exact bK.aE l xs r
 |.kl l,v,r=>by unfold RT at r;unfold Tr.aE;obtain⟨_,xs,_,_,r⟩:=r;exact bK.aE l xs r
 |.hd n,v,r=>by unfold Tr.aE;exact decide_eq_true r.c_.1
 |.bu,v,r=>by unfold Tr.aE;rfl
 |.bl _,v,r=>by unfold Tr.aE;rfl
 |.int _,v,r=>by unfold Tr.aE;rfl
 |.str _,v,r=>by unfold Tr.aE;rfl
theorem bK.aE {w:Wd}:∀(l:List Tr) (xs:List V),bK w l xs->Tr.jz w.n l=true
 |[],xs,r=>by unfold Tr.jz;rfl
 |t::l,xs,r=>by
  obtain⟨x,r',rfl,h1,h2⟩:=r.bD;unfold Tr.jz;rw[RT.aE t x h1,bK.aE l r' h2];rfl
end
mutual
theorem RT.m9 {w:Wd}{m:Nat}(hF:∀b o,w.F b=some o->F' b=some o):∀(t:Tr) (v:V),RT w t v->t.aE m=true->RT {w with n:=m,F:=F' } t v
 |.tp l,v,r,h=>by unfold RT at r ⊢;unfold Tr.aE at h;obtain⟨a,xs,e,s,r⟩:=r;exact⟨a,xs,e,hF _ _ s,bK.m9 hF l xs r h⟩
 |.ls l,v,r,h=>by unfold RT at r ⊢;unfold Tr.aE at h;obtain⟨a,xs,e,s,r⟩:=r;exact⟨a,xs,e,hF _ _ s,bK.m9 hF l xs r h⟩
 |.kt l,v,r,h=>by unfold RT at r ⊢;unfold Tr.aE at h;obtain⟨a,xs,e,s,r⟩:=r;exact⟨a,xs,e,s.mono hF,bK.m9 hF l xs r h⟩
 |.kl l,v,r,h=>by unfold RT at r ⊢;unfold Tr.aE at h;obtain⟨a,xs,e,s,r⟩:=r;exact⟨a,xs,e,s.mono hF,bK.m9 hF l xs r h⟩
 |.hd n,v,r,h=>by unfold RT;unfold Tr.aE at h;exact⟨of_decide_eq_true h,r.c_.2⟩
 |.bu,v,r,h=>by unfold RT at r ⊢;exact r
 |.bl _,v,r,h=>by unfold RT at r ⊢;exact r
 |.int _,v,r,h=>by unfold RT at r ⊢;exact r
 |.str _,v,r,h=>by unfold RT at r ⊢;exact r
theorem bK.m9 {w:Wd}{m:Nat}(hF:∀b o,w.F b=some o->F' b=some o):∀(l:List Tr) (xs:List V),bK w l xs->Tr.jz m l=true->bK {w with n:=m,F:=F' } l xs
 |[],xs,r,h=>by rw[r.cy];exact .nil
 |t::l,xs,r,h=>by
  obtain⟨x,r',rfl,h1,h2⟩:=r.bD;unfold Tr.jz at h;have h:=zbf.mp h;exact .cons (RT.m9 hF t x h1 h.1) (bK.m9 hF l r' h2 h.2)
end
noncomputable def agG (m:Nat):Ce->Bool
 |.sJ=>true
 |.bM l=>Tr.jz m l
 |.jt l=>Tr.jz m (l.map Prod.snd)
 |.d_ _ l=>Tr.jz m (l.map Prod.snd)
 |.sL _ l=>Tr.jz m (l.map Prod.snd)
 |.Pb l=>Tr.jz m (l.map Prod.snd)
 |.vM l=>Tr.jz m (l.map Prod.snd)
 |.Dt l=>Tr.jz m (l.map Prod.snd)
theorem bH.aE {w:Wd}(h:bH G w H a c):agG w.n c=true:=by
 cases c with
 |sJ=>rfl
 |bM l=>obtain⟨xs,_,r⟩:=h;exact bK.aE _ _ r
 |jt l=>obtain⟨xs,_,r⟩:=h;exact bK.aE _ _ r.2
 |d_ c l=>obtain⟨_,xs,_,r⟩:=h;exact bK.aE _ _ r.2
 |sL c l=>obtain⟨_,_,xs,_,_,_,_,_,r⟩:=h;exact bK.aE _ _ r.2
 |Pb l=>obtain⟨xs,_,r⟩:=h;exact bK.aE _ _ r.2
 |vM l=>obtain⟨_,xs,_,r⟩:=h;exact bK.aE _ _ r.2
 |Dt l=>obtain⟨_,xs,_,r⟩:=h;exact bK.aE _ _ r.2
theorem bH.cut {w:Wd}{m:Nat}(hF:∀b o,w.F b=Option.some o->F' b=Option.some o)(h:bH G w H a c)(hb:agG m c=true):bH G {w with n:=m,F:=F' } H a c:=by
 cases c with
 |sJ=>trivial
 |bM l=>obtain⟨xs,e,r⟩:=h;exact⟨xs,e,bK.m9 hF _ _ r hb⟩
 |jt l=>obtain⟨xs,e,r⟩:=h;exact⟨xs,e,r.1,bK.m9 hF _ _ r.2 hb⟩
 |d_ c l=>obtain⟨dx,xs,e,r⟩:=h;exact⟨dx,xs,e,r.1,bK.m9 hF _ _ r.2 hb⟩
 |sL c l=>obtain⟨T,d,xs,e,e2,e3,n1,n2,r⟩:=h;exact⟨T,d,xs,e,hF _ _ e2,hF _ _ e3,n1,n2,r.1,bK.m9 hF _ _ r.2 hb⟩
 |Pb l=>obtain⟨xs,e,r⟩:=h;exact⟨xs,e,r.1,bK.m9 hF _ _ r.2 hb⟩
 |vM l=>obtain⟨o,xs,e,r⟩:=h;exact⟨o,xs,hF _ _ e,r.1,bK.m9 hF _ _ r.2 hb⟩
 |Dt l=>obtain⟨o,xs,e,r⟩:=h;exact⟨o,xs,hF _ _ e,r.1,bK.m9 hF _ _ r.2 hb⟩
noncomputable def nK (m:Nat)(S:Cs)(t:Tr):Option Tr:=match t with
 |.hd n=>if n<m then some (.hd n) else (match cD S n with|some l=>if Tr.jz m l=true then some (.ls l) else none|none=>none)
 |t=>if t.aE m=true then some t else none
open Classical in
noncomputable def kU (q:Fn):Fn:=λts S=>match q ts S with
 |.ok t S1=>if S1.take S.length=S then (match nK S.length S1 t with|some u=>.ok u S|none=>.aG) else .aG
 |.ex n S1=>.ex n S1
 |.aG=>.aG
open Classical in
theorem Rr {H:Hp}(h:dz K cl n (kU q) vs H Q E):dz K cl n q vs H Q E:=by
 obtain⟨w,S,ts,hr,r,hn,qq⟩:=h;refine⟨w,S,ts,hr,r,hn,?_⟩
 unfold kU at qq;cases e:q ts S with
 |ex m S1=>rw[e] at qq;exact qq
 |aG=>rw[e] at qq;exact qq
 |ok t S1 =>
  rw[e] at qq;have qq:bz RT ⟨K,cl,E⟩ w (if S1.take S.length=S then (match nK S.length S1 t with|some u=>.ok u S|none=>.aG) else .aG) Q:=qq
  split at qq
  ·rename_i hS
   split at qq
   ·rename_i u eu
    intro w1 H1 v dh bO rv;have hm:S.length<=S1.length:=by
     have:=congrArg List.length hS
     rw[zaQ] at this;omega
    have hF:∀b o,w1.F b=some o->Fz w1.ρ w1.hid (S1.take S.length) H1 b=some o:=λb o e=>Zu b o (by rw[<-bO.F];exact e)
    have dR:=bO.cut hm λi c ec=>by
     have hi:=(zab.mp ec).1
     rw[zaQ] at hi;have ec1:S1[i]? = some c:=by rw[zbA (by omega)] at ec;exact ec
     rw[hS] at ec;have hb:=(hr.cell i c ec).aE
     rw[hr.n] at hb;exact (bO.cell i c ec1).cut hF hb
    have fC:w.le {w1 with n:=S.length,F:=Fz w1.ρ w1.hid (S1.take S.length) H1}:=⟨dh.K,by show w.n<=S.length;rw[hr.n];exact zah _,dh.r,λb o e=>hF b o (dh.F b o e),dh.hid⟩
    rw[hS] at dR fC hF;refine qq _ _ _ fC dR ?_
    unfold nK at eu;split at eu
    ·rename_i n
     split at eu
     ·cases eu
      rename_i jc;unfold RT;exact⟨jc,rv.c_.2⟩
     ·rename_i hge
      split at eu
      ·rename_i l el
       split at eu
       ·rename_i hb
        cases eu;obtain⟨xs,h1,h2⟩:=bO.cell _ _ (c9 el)
        have lv:eE S1 n:=⟨_,c9 el,rfl⟩
        unfold RT;refine⟨_,xs,rv.c_.2,?_,bK.m9 hF _ _ h2 hb⟩
        show Fz w1.ρ w1.hid S H1 (w1.ρ n)=_
        unfold Fz;rw[if_neg,h1];rintro (⟨i,li,ei⟩|z)
        ·have li1:eE S1 i:=by
          obtain⟨c,ec,nc⟩:=li;have hi:=(zab.mp ec).1
          rw[<-hS,zbA (by omega)] at ec
          exact⟨c,ec,nc⟩
         have:=bO.inj i n li1 lv ei
         subst this;exact hge li.lt
        ·exact z (bO.jJ n lv)
       ·cases eu
      ·cases eu
    ·split at eu
     ·cases eu
      exact RT.m9 hF _ _ rv (by assumption)
     ·cases eu
   ·exact qq.elim
  ·exact qq.elim
theorem aN.pure (F:aN P w K mg base CX j f fd ps (dz K cl n q)):aN P w K mg base CX j f fd ps (dz K cl n (kU q)):=F.imp λ_ _ _ _ h=>Rr h
end
section
variable {G:Gx}{k:Nat}{X:Cx}{a b c o e kx vx:Expr}{es:List Expr}{ks:List (Option Expr)}{vs:List Expr}{fo fe ff fk fv:Em}{pos fN gU:Pos}
noncomputable def DG:Em:=λ_ S=>.ok (.hd S.length) (S++[.jt []])
theorem LV:TV G k X (.Dict [] [] pos) DG:=.mk<|λ_=>Ku.wk λσ H Q h=>by
 obtain⟨w,S,τ,hr,sl,q⟩:=h;intro p hp;obtain⟨h2,le⟩:=hr.Ib (c:=.jt []) hp (o:=.dK []) rfl ⟨[],az,.nil⟩
 refine q _ _ _ le h2 ?_
 unfold RT;exact⟨by show S.length<w.n+1;rw[hr.n];exact zbj _,by show V.ref p=V.ref (if S.length=w.n then p else w.ρ S.length);rw[if_pos hr.n.symm]⟩
noncomputable def Im:List (Em×Em)->En->Cs->R (List (dJ×Tr))
 |[],_,S=>.ok [] S
 | (fk,fv)::r,τ,S=>(fk τ S).aE λt S1=>(fv τ S1).aE λu S2=>(Im r τ S2).aE λl S3=>match jh t with|some j=>.ok ((j,u)::l) S3|none=>.aG
noncomputable def LW (ps:List (Em×Em)):Em:=λτ S=>(Im ps τ (S++[.jt []])).aE λl S1=>match sV S1 S.length with
 |some []=>if l.length<=15 then .ok (.hd S.length) (S1.set S.length (.jt (fD [] l))) else .aG
 |_=>.aG
noncomputable def LX (G:Gx)(ps:List (Em×Em)):List (TE×TE):=ps.map λp=>(fO G p.1,fO G p.2)
structure TVP (G:Gx) (k:Nat) (X:Cx) (pos:Pos) (ks:List (Option Expr)) (vs:List Expr) (ps:List (Em×Em)):Prop where
 jW:ju G k X->PPs X pos ks vs (LX G ps)
noncomputable instance {G:Gx}{k:Nat}{X:Cx}{pos:Pos}{ks:List (Option Expr)}{vs:List Expr}{ps:List (Em×Em)}:CoeFun (TVP G k X pos ks vs ps) (λ_=>ju G k X->PPs X pos ks vs (LX G ps)):=⟨TVP.jW⟩
theorem Z3:TVP G k X pos [] [] []:=.mk<|λ_=>Qd
theorem Rt (hk:TV G k X kx fk)(hv:TV G k X vx fv)(hr:TVP G k X pos ks vs ps):TVP G k X pos (some kx::ks) (vx::vs) ((fk,fv)::ps):=.mk<|λo=>Kv (hk o) (hv o) (hr o)
theorem LY:∀(ps:List (Em×Em)) {w:Wd} {S:Cs} {τ:En} {σ:St} {H:Hp} {Q:List (V×V)->Hp->Prop},HR G w S H->Sl w τ σ ->
  bz (λw (l:List (dJ×Tr)) (m:List (V×V))=>∃aP,m=aP.map (λkv=>(kV kv.1,kv.2))/\RK w l aP) G w (Im ps τ S) Q->yD (LX G ps) σ H Q
 |[],w,S,τ,σ,H,Q,hr,sl,q=>q w H [] (.refl w) hr ⟨[],rfl,.nil⟩
 | (fk,fv)::r,w,S,τ,σ,H,Q,hr,sl,q=>by
  refine⟨w,S,τ,hr,sl,(bz.aE q).mono λx H1 bS=>?_⟩
  obtain⟨w1,S1,t,dh,bO,r1,_,q1⟩:=bS;refine⟨w1,S1,τ,bO,sl.mono dh,(bz.aE q1).mono λy H2 dB=>?_⟩
  obtain⟨w2,S2,u,fC,dR,r2,_,q2⟩:=dB;refine LY r dR ((sl.mono dh).mono fC) ((bz.aE q2).mono λm H3 eZ=>?_)
  obtain⟨w3,S3,l,lV,pM,⟨aP,em,rk⟩,_,q3⟩:=eZ
  split at q3
  ·rename_i j ej
   refine q3 w3 H3 _ (.refl _) pM ⟨(j,y)::aP,?_,.cons (RT.mono lV _ _ r2) rk⟩
   rw[em,zas,gX ej r1]
  ·exact q3.elim
theorem Ru (h:TVP G k X pos ks vs ps)(Kw:autoParam (ks.all (·.isSome)=true) zp_0)(hl:autoParam (ks.length=vs.length) zp_0)(h0:ks≠[]:=by simp)(h15:autoParam (ks.length<=15) zp_1):TV G k X (.Dict ks vs pos) (LW ps):=.mk<|λox=>(Qe (h ox) Kw hl h0 h15).wk λσ H Q h=>by
 obtain⟨w,S,τ,hr,sl,q⟩:=h;intro p hp;obtain⟨h2,le⟩:=hr.Ib (c:=.jt []) hp (o:=.dK []) rfl ⟨[],az,.nil⟩
 have jc:S.length<(w.up p).n:=by show S.length<w.n+1;rw[hr.n];exact zbj _
 have iw:(w.up p).ρ S.length=p:=by show (if S.length=w.n then p else w.ρ S.length)=p;rw[if_pos hr.n.symm]
 refine LY ps h2 (sl.mono le) ((bz.aE (bz.wd le q)).mono λm H2 iP=>?_)
 obtain⟨w2,S2,l,fC,dR,⟨aP,em,rk⟩,_,q2⟩:=iP
 split at q2
 ·rename_i ed
  split at q2
  ·rename_i h15
   obtain⟨aqn,h3,h4⟩:=dR.cell _ _ (gK ed)
   have Z4:w2.ρ S.length=p:=(fC.r _ jc).trans iw
   rw[Z4,h4.cy] at h3;refine⟨h3,aP,em,by rw[rk.len];exact h15,?_⟩
   have h5:HR G w2 (S2.set S.length (.jt (fD [] l))) (bF H2 (w2.ρ S.length) (.dK (gc [] aP))):=dR.C8 (gK ed) rfl rfl ⟨_,az,RK.Au rk .nil⟩
   rw[Z4] at h5;refine q2 w2 _ _ (.refl _) h5 ?_
   unfold RT;exact⟨zal jc fC.n,by rw[Z4]⟩
  ·exact q2.elim
 ·exact q2.elim
noncomputable def FF (fo fe ff:Em):Em:=λτ S=>(fo τ S).aE λt S1=>if ckD S1 t=true then (fe τ S1).aE λj S2=>(ff τ S2).aE λu S3=>(match Pc S3 t,jh j with|some m,some q=>.ok ((aQ q m).getD u) S3|_,_=>.aG) else .aG
theorem Z5 (hr:HR G w S H)(r:RT w t v)(h:ckD S t=true):∃n,t = .hd n/\v = .ref (w.ρ n)/\IsD H (w.ρ n):=by
 unfold ckD at h;obtain⟨m,em⟩:=zbR.mp h;obtain⟨n,aP,e1,_,e2,h1,_⟩:=yW hr r em;exact⟨n,e1,e2,.inl ⟨aP,.inl h1⟩⟩
theorem Io {j:dJ}(R:RK w m aP)(ru:RT w u z):RT w ((aQ j m).getD u) ((lz aP j).getD z):=by
 obtain⟨h1,h2⟩:=oM (k:=j) R
 cases e:aQ j m with
 |none=>rw[h2 e];exact ru
 |some t=>obtain⟨v,ev,rv⟩:=h1 t e;rw[ev];exact rv
theorem FG (ho:TV G k X o fo)(he:TV G k X e fe)(hf:TV G k X c ff)(m:autoParam (M2 X o "get" fN e c gU) zp_9):TV G k X (.Call (.Attribute o "get" fN) [e,c] [] gU) (FF fo fe ff):=.mk<|λox=>(Ky ox.hu1 (ho ox) (he ox) (hf ox) m).wk λσ H Q h=>by
 obtain⟨w,S,τ,hr,sl,q⟩:=h;refine⟨w,S,τ,hr,sl,(bz.aE q).mono λx H1 iQ=>?_⟩
 obtain⟨w1,S1,t,dh,bO,r1,_,q1⟩:=iQ;split at q1
 ·rename_i hck
  obtain⟨n,rfl,e2,hd⟩:=Z5 bO r1 hck;refine⟨_,e2,hd,w1,S1,τ,bO,sl.mono dh,(bz.aE q1).mono λy H2 lT=>?_⟩
  obtain⟨w2,S2,j,fC,dR,r2,_,q2⟩:=lT;refine⟨w2,S2,τ,dR,(sl.mono dh).mono fC,(bz.aE q2).mono λz H3 jH=>?_⟩
  obtain⟨w3,S3,u,lV,pM,r3,_,q3⟩:=jH;split at q3
  ·rename_i mm qk em ek
   obtain⟨n',aP,e4,_,_,h4,R⟩:=yW pM (RT.mono (fC.trans lV) _ _ r1) em
   cases e4;rw[(fC.trans lV).r _ r1.c_.1] at h4;refine⟨lz aP qk,by rw[gX ek (RT.mono lV _ _ r2)];exact nE.k h4,q3 w3 H3 _ (.refl _) pM (Io R r3)⟩
  ·exact q3.elim
 ·exact q1.elim
noncomputable def Z6 (f:Em):Em:=λτ S=>(f τ S).aE λt S1=>match t with
 |.str x=>if x.length<=sizeLine then .ok (.str x) S1 else .aG
 |.int i=>if i.natAbs.log2<1920 then .ok (.str (toString i)) S1 else .aG
 |_=>.aG
theorem Z7 (h:TV G k X a fo):TV G k X (.FormattedValue a (-1) none pos) (Z6 fo):=.mk<|λox=>(Y_ (h ox)).wk λσ H Q h=>by
 obtain⟨w,S,τ,hr,sl,q⟩:=h;refine⟨w,S,τ,hr,sl,(bz.aE q).mono λx H1 oK=>?_⟩
 obtain⟨w1,S1,t,dh,bO,r1,_,q1⟩:=oK;split at q1
 ·split at q1
  ·exact .inl ⟨_,cE r1,by assumption,q1 w1 H1 _ (.refl _) bO j_⟩
  ·exact q1.elim
 ·split at q1
  ·exact .inr ⟨_,bh r1,by assumption,q1 w1 H1 _ (.refl _) bO j_⟩
  ·exact q1.elim
 ·exact q1.elim
noncomputable def fJ:List Em->Str->Em
 |[],cg,_,S=>if cg.length<=sizeLine then .ok (.str cg) S else .aG
 |f::r,cg,τ,S=>(f τ S).aE λt S1=>match t with|.str y=>if (cg++y).length<=sizeLine then fJ r (cg++y) τ S1 else .aG|_=>.aG
structure TVJ (G:Gx) (k:Nat) (X:Cx) (es:List Expr) (fs:List Em):Prop where
 jW:ju G k X->PJ X es (λcg=>fO G (fJ fs cg))
noncomputable instance {G:Gx}{k:Nat}{X:Cx}{es:List Expr}{fs:List Em}:CoeFun (TVJ G k X es fs) (λ_=>ju G k X->PJ X es (λcg=>fO G (fJ fs cg))):=⟨TVJ.jW⟩
theorem Z8:TVJ G k X [] []:=.mk<|λ_ cg ah s σ H Q I ⟨w,S,τ,hr,sl,q⟩=>Zb cg ah s σ H Q I (by
 unfold fJ at q;split at q
 ·exact⟨by assumption,q w H _ (.refl w) hr j_⟩
 ·exact q.elim)
theorem Rv (h1:TV G k X e f)(h2:TVJ G k X es fs):TVJ G k X (e::es) (f::fs):=.mk<|λox cg ah s σ H Q I ⟨w,S,τ,hr,sl,q⟩=>QG (h1 ox) (h2 ox) cg ah s σ H Q I ⟨w,S,τ,hr,sl,(bz.aE q).mono λx H1 iS=>by
 obtain⟨w1,S1,t,dh,bO,r1,_,q1⟩:=iS;split at q1
 ·split at q1
  ·exact⟨_,cE r1,by assumption,w1,S1,τ,bO,sl.mono dh,q1⟩
  ·exact q1.elim
 ·exact q1.elim⟩
theorem Rw (h:TVJ G k X (a::b::es) fs):TV G k X (.JoinedStr (a::b::es) pos) (fJ fs Str.empty):=.mk<|λox=>QH (h ox)
end
structure pU (K:W.Frag) (mg:Str->Option Value) (x:Str) (st:Stmt) (ps:List Str) (f:Addr) (fd:FuncData):Prop where
 F:KS K x x st f fd
 m:mg x=some (.ref f)
 b:eB K fd ps []
structure iC (K:W.Frag) (C:Addr) (x b_:Str) (st:Stmt) (ps:List Str) (f:Addr) (fd:FuncData):Prop where
 F:KS K x b_ st f fd
 M:cI K C x f
 b:eB K fd ps []
structure LZ (K:W.Frag) (mg:Str->Option Value) (x:Str) (C f:Addr):Prop where
 m:mg x=some (.ref C)
 c:vE K C
 k:Mk K C f
theorem aA:gb dM X E:=λ_ _ _ _ _ _ _ h=>h.elim
noncomputable def RS.seq (r:RS)(g:Sm):RS:=match r with|.nx dU S1=>g dU S1|r=>r
noncomputable def RS.dN (r:RS):R Tr:=match r with|.nx _ S'=>.ok .bu S' | .rt t S'=>.ok t S' | _=>.aG
theorem Z9 (f g:Sm)(τ:En)(S:Cs):ao f g τ S=(f τ S).seq g:=rfl
theorem A0 (N:List Str)(sb:Sm)(ts:List Tr)(S:Cs):cV N sb ts S=(sb (gy N ts) S).dN:=rfl
theorem Rx {α β:Type}{c:Prop}(a b:R α)(k:α -> Cs->R β):(vN c a b).aE k=vN c (a.aE k) (b.aE k):=by unfold vN;split<;>rfl
theorem L4 {α:Type}{c:Prop}(a b:R α)(k:α -> Cs->RS):(vN c a b).bP k=vN c (a.bP k) (b.bP k):=by unfold vN;split<;>rfl
theorem Ry {c:Prop}(a b:RS)(g:Sm):(vN c a b).seq g=vN c (a.seq g) (b.seq g):=by unfold vN;split<;>rfl
theorem Rz {c:Prop}(a b:RS):(vN c a b).dN=vN c a.dN b.dN:=by unfold vN;split<;>rfl
theorem Z_ (τ:En)(S:Cs)(g:Sm):(RS.nx τ S).seq g=g τ S:=rfl
theorem aaa (t:Tr)(S:Cs)(g:Sm):(RS.rt t S).seq g = .rt t S:=rfl
theorem RA (g:Sm):RS.aG.seq g = .aG:=rfl
theorem aab (τ:En)(S:Cs):(RS.nx τ S).dN = .ok .bu S:=rfl
theorem s_ (t:Tr)(S:Cs):(RS.rt t S).dN = .ok t S:=rfl
theorem RB:RS.aG.dN = .aG:=rfl
theorem L5 (τ:En)(S:Cs)(g:Sm):UH (.nx τ S) g=g τ S:=rfl
theorem agH (τ:En)(S:Cs)(g:Sm):UH (.ct τ S) g=g τ S:=rfl
theorem UJ (t:Tr)(S:Cs)(g:Sm):UH (.rt t S) g = .rt t S:=rfl
theorem bA {n:Nat}(h:n<=1000000):(n<=sizeLine)=True:=eq_true (zai h (by decide))
theorem g_ {n:Nat}(h:n<1000000):(n<sizeLine)=True:=eq_true (zal h (by decide))
theorem gQ {α:Type}(a:α)(S:Cs):jd (.ok a S) = .ok a S:=rfl
theorem aac {p:Prop}[Decidable p]:(decide p=true)=p:=propext decide_eq_true_iff
theorem agI {α:Type}(a b:α):(if True then a else b)=a:=if_pos trivial
theorem alF {α:Type}(a b:α):(if False then a else b)=b:=if_neg id
theorem L6 {b:Tr->En->Cs->R En}{f:Sm}{τ:En}{S:Cs}:fP (λ_=>True) b f [] τ S = .nx τ S:=by unfold fP;rw[if_pos trivial]
theorem Ip {b:Tr->En->Cs->R En}{f:Sm}{t:Tr}{r:List Tr}{τ:En}{S:Cs}:fP (λ_=>True) b f (t::r) τ S=(b t τ S).bP λdU S1=>UH (f dU S1) (fP (λ_=>True) b f r):=by
 conv=>lhs;unfold fP
 rw[if_pos trivial]
theorem wO {b:Tr->En->Cs->R En}{c:En->Cs->R Bool}{f:Em}{τ:En}{cg:List Tr}{S:Cs}:cY (λ_=>True) b c f [] τ cg S = .ok cg S:=by unfold cY;rw[if_pos trivial]
theorem tu {b:Tr->En->Cs->R En}{c:En->Cs->R Bool}{f:Em}{t:Tr}{r:List Tr}{τ:En}{cg:List Tr}{S:Cs}:cY (λ_=>True) b c f (t::r) τ cg S =
  (jd (b t τ S)).aE λdU S1=>(jd (c dU S1)).aE λx S2=>if x=true then (jd (f dU S2)).aE λu S3=>(if cg.length<sizeLine then cY (λ_=>True) b c f r dU (cg++[u]) S3 else .aG) else cY (λ_=>True) b c f r dU cg S2:=by
 conv=>lhs;unfold cY
 rw[if_pos trivial]
theorem pV {b:Tr->En->Cs->R En}{c:En->Cs->R Bool}{f:Em}{S:Cs}(τ0:En)(P:En->Prop)(g:Tr->Tr)(keep:Tr->Bool)
  : ∀(l:List Tr) (τ:En) (cg:List Tr),P τ -> (∀t∈l,∀ τ,P τ -> ∃dU,P dU/\b t τ S = .ok dU S/\c dU S = .ok (keep t) S/\(keep t=true->f dU S = .ok (g t) S))->cg.length+l.length<=1000000 ->
   cY (λ_=>True) b c f l τ cg S = .ok (cg++(l.filter keep).map g) S
 |[],τ,cg,hτ,h,hl=>by rw[wO];simp
 |t::r,τ,cg,hτ,h,hl=>by
  obtain⟨dU,p1,e1,e2,e3⟩:=h t (by simp) τ hτ
  rw[tu,e1,gQ,R.eL,e2,gQ,R.eL];have JJ:cg.length+1+r.length<=1000000:=by simp at hl;omega
  cases hk:keep t with
  |true =>
   rw[if_pos rfl,e3 hk,gQ,R.eL,if_pos (zal (by omega:cg.length<1000000) (by decide)),pV τ0 P g keep r dU _ p1 (λu hu=>h u (by simp[hu])) (by simp;omega)]
   simp[zbU,hk]
  |false =>
   rw[if_neg zak,pV τ0 P g keep r dU _ p1 (λu hu=>h u (by simp[hu])) (by omega)]
   simp[zbU,hk]
theorem RC {α:Type}(l:List α)(a b:α):(l++[a]).set l.length b=l++[b]:=by
 induction l with
 |nil=>rfl
 |cons x r ih=>simp only[zaL,zaD,zdi,ih]
theorem mP {α:Type}(l:List α)(a:α):(l++[a])[l.length]? = some a:=by simp
theorem Iq (S:Cs)(l:List Tr):cD (S++[.bM l]) S.length=some l:=by unfold cD;rw[mP]
open Classical in
theorem e_ {q:Fn}{ts:List Tr}{S S1:Cs}{t u:Tr}(h:q ts S = .ok t S1)(h1:S1.take S.length=S)(h2:nK S.length S1 t=some u):kU q ts S = .ok u S:=by
 unfold kU;rw[h];show (if S1.take S.length=S then _ else _)=_
 rw[if_pos h1,h2]
theorem wQ (S:Cs)(T:List Ce):(S++T).take S.length=S:=by simp
theorem fR (m:Nat):∀l:List Tr,Tr.jz m l=l.all (Tr.aE m)
 |[]=>by unfold Tr.jz;rfl
 |t::l=>by unfold Tr.jz;rw[fR m l];rfl
theorem fS:∀l:List Tr,Tr.lC l=l.all Tr.mJ
 |[]=>by unfold Tr.lC;rfl
 |t::l=>by unfold Tr.lC;rw[fS l];rfl
theorem oU {m:Nat}{i:Int}:Tr.aE m (.int i)=true:=by unfold Tr.aE;rfl
theorem kC {m:Nat}{i:Str}:Tr.aE m (.str i)=true:=by unfold Tr.aE;rfl
theorem L7 {m:Nat}{i:Bool}:Tr.aE m (.bl i)=true:=by unfold Tr.aE;rfl
theorem FH {m:Nat}:Tr.aE m .bu=true:=by unfold Tr.aE;rfl
theorem nL {m:Nat}{l:List Tr}:Tr.aE m (.tp l)=l.all (Tr.aE m):=by unfold Tr.aE;exact fR m l
theorem aad {m:Nat}{l:List Tr}:Tr.aE m (.ls l)=l.all (Tr.aE m):=by unfold Tr.aE;exact fR m l
noncomputable def FI (K:W.Frag):Sp:=λvs H Q _=>∃(a:Addr) (ns:List Int),vs=[.ref a]/\iO K H a (ns.map V.int)/\ns.length<=63/\∀H',Q (.bl true) H'
theorem aae {P:Program}{w:World}{K:W.Frag}{mg:Str->Option Value}{base:Heap}{CX:CA}{j:Nat}{f:Addr}{fd:FuncData}{ps:List Str}{cl:Str->Addr}{q:Fn}(F:aN P w K mg base CX j f fd ps (dz K cl 1 q))
  (h:∀ns:List Int,ns.length<=63->∃S,q [.kl (ns.map Tr.int)] [] = .ok (.bl true) S):aN P w K mg base CX j f fd ps (FI K):=F.imp λvs H Q E bS=>by
 obtain⟨a,ns,ev,hS,hl,k⟩:=bS;subst ev;obtain⟨S,e⟩:=h ns hl;refine⟨⟨K,0,λ_=>0,H,λ_=>none⟩,[],[.kl (ns.map Tr.int)],⟨rfl,rfl,?_,λi c e=>(by simp at e),λi j ⟨c,e,_⟩=>(by simp at e),λb o e=>(by cases e),λi ⟨c,e,_⟩=>(by simp at e),λb xs e=>(by cases e)⟩,.cons ?_ .nil,rfl,?_⟩
 ·funext b
  unfold Fz;rw[if_neg];rintro (⟨i,⟨c,e,_⟩,_⟩|z)
  ·simp at e
  ·exact z rfl
 ·unfold RT
  exact⟨a,_,rfl,hS,bK.ints ns⟩
 ·rw[e]
  intro w' H' v _ _ rv;rw[pN rv];exact k H'
noncomputable def alG (t:Tr)(x:R Tr)(S:Cs):R Tr:=match t with|.bl true=>x|.bl false=>.ok (.bl false) S|_=>.aG
noncomputable def orV (t:Tr)(x:R Tr)(S:Cs):R Tr:=match t with|.bl true=>.ok (.bl true) S|.bl false=>x|_=>.aG
theorem Ir {p:Prop}[Decidable p]{a b:Bool}{S:Cs}:(if p then R.ok (Tr.bl a) S else R.ok (Tr.bl b) S)=R.ok (Tr.bl (if p then a else b)) S:=by split<;>rfl
theorem zf {α:Type}{l:List α}{n:Int}{m:Int}(hm:m=l.length)(h0:0<m):∃t,t∈l/\ig l (n % m)=some t:=by
 have h1:=zcR n (by omega:m≠0)
 have h2:=zcB n h0;obtain⟨j,hj⟩:=zbG h1;have FJ:j<l.length:=by omega
 exact⟨l[j],zcm FJ,by rw[hj];exact gq (zae FJ)⟩
theorem oV {lo:Int}{n i:Nat}{t:Tr}(h:(pS lo n)[i]? = some t):i<n/\t = .int (lo+i):=by
 unfold pS at h;rw[zaq] at h;have jc:i<n:=by
  cases ec:(List.range n)[i]? with
  |none=>rw[ec] at h;cases h
  |some c=>simpa using (zab.mp ec).1
 rw[zcX jc] at h;cases h;exact⟨jc,rfl⟩
theorem oW {lo:Int}{n:Nat}:(pS lo n).length=n:=by simp[pS]
end L2
namespace L2
open PySem PySem.Spec PyProof.Rows
theorem tw {st:Nat}{l:List Tr}{i:Nat}{t:Tr}(h:(qF st l)[i]? = some t):∃u,l[i]? = some u/\t = .tp [.int ((st:Int)+(i:Int)),u]:=by
 obtain⟨u,e,rfl⟩:=wM h;exact⟨u,e,by rw[zbB]⟩
end L2
namespace L2
open PySem PySem.Spec PyProof.Rows
theorem tD:∀{l m:List Char},l.map Char.toNat=m.map Char.toNat->l=m
 |[],[],_=>rfl
 |[],_::_,h=>by simp at h
 |_::_,[],h=>by simp at h
 |a::l,b::m,h=>by
  simp only[zas,List.cons.injEq] at h;rw[tD h.2,Char.ext (UInt32.toNat_inj.mp h.1)]
theorem RD {a b:String}:(Str.ofString a=Str.ofString b)=(a=b):=by
 apply propext
 constructor
 ·intro h
  rw[Str.ofString_eq_byList] at h;unfold Str.ofStringByList at h;simp only[Str.mk.injEq] at h;have h2:a.toList.map Char.toNat=b.toList.map Char.toNat:=by simpa using h
  exact String.toList_inj.mp (tD h2)
 ·rintro rfl;rfl
theorem tE {gF:Cs->Prop}{b:Tr->En->Cs->R En}{c:En->Cs->R Bool}{f:Em}{τ:En}{cg:List Tr}{S:Cs}(h:gF S):cY gF b c f [] τ cg S = .ok cg S:=by unfold cY;rw[if_pos h]
theorem qG {gF:Cs->Prop}{b:Tr->En->Cs->R En}{c:En->Cs->R Bool}{f:Em}{t:Tr}{r:List Tr}{τ:En}{cg:List Tr}{S:Cs}(h:gF S):cY gF b c f (t::r) τ cg S =
  (jd (b t τ S)).aE λdU S1=>(jd (c dU S1)).aE λx S2=>if x=true then (jd (f dU S2)).aE λu S3=>(if cg.length<sizeLine then cY gF b c f r dU (cg++[u]) S3 else .aG) else cY gF b c f r dU cg S2:=by
 conv=>lhs;unfold cY
 rw[if_pos h]
theorem iV {α:Type}{gF:Cs->Prop}{b:Tr->En->Cs->R En}{c:En->Cs->R Bool}{f:Em}{S:Cs}(hS:gF S)(P:En->Prop)(k:α -> Tr)(g:α -> Tr)(keep:α -> Bool)
  : ∀(l:List α) (τ:En) (cg:List Tr),P τ -> (∀a∈l,∀ τ,P τ -> ∃dU,P dU/\b (k a) τ S = .ok dU S/\c dU S = .ok (keep a) S/\(keep a=true->f dU S = .ok (g a) S))->cg.length+l.length<=1000000 ->
   cY gF b c f (l.map k) τ cg S = .ok (cg++(l.filter keep).map g) S
 |[],τ,cg,hτ,h,hl=>by rw[zbM,tE hS];simp
 |t::r,τ,cg,hτ,h,hl=>by
  obtain⟨dU,p1,e1,e2,e3⟩:=h t (by simp) τ hτ
  rw[zas,qG hS,e1,gQ,R.eL,e2,gQ,R.eL];have JJ:cg.length+1+r.length<=1000000:=by simp at hl;omega
  cases hk:keep t with
  |true =>
   rw[if_pos rfl,e3 hk,gQ,R.eL,if_pos (zal (by omega:cg.length<1000000) (by decide)),iV hS P k g keep r dU _ p1 (λu hu=>h u (by simp[hu])) (by simp;omega)]
   simp[zbU,hk]
  |false =>
   rw[if_neg zak,iV hS P k g keep r dU _ p1 (λu hu=>h u (by simp[hu])) (by omega)]
   simp[zbU,hk]
theorem DH {α β γ:Type}(f:α -> Bool)(g:α -> γ):∀{l:List α} {l':List β},l'.length=l.length->((l.zip l').filter λp=>f p.1).map (λp=>g p.1)=(l.filter f).map g
 |[],_,_=>by simp
 |a::l,[],h=>by simp at h
 |a::l,b::l',h=>by
  have h':l'.length=l.length:=by simpa using h
  rw[zdj,zbU,zbU];cases f a
  ·simp only[zcd,if_false];exact DH f g h'
  ·simp only[if_true,zas];rw[DH f g h']
theorem FL {α β γ:Type}(g:β -> γ):∀{l:List α} {l':List β},l'.length=l.length->(l.zip l').map (λp=>g p.2)=l'.map g
 |[],[],_=>rfl
 |[],_::_,h=>by simp at h
 |a::l,[],h=>by simp at h
 |a::l,b::l',h=>by
  have h':l'.length=l.length:=by simpa using h
  rw[zdj,zas,zas,FL g h']
theorem L8 {α β:Type}:∀{l:List α} {l':List β} {p:α × β},p∈l.zip l'->∃j:Nat,l[j]? = some p.1/\l'[j]? = some p.2
 |[],_,p,h=>by simp at h
 |_::_,[],p,h=>by simp at h
 |a::l,b::l',p,h=>by
  rw[zdj] at h;rcases zao.mp h with rfl|h
  ·exact⟨0,rfl,rfl⟩
  ·obtain⟨j,h1,h2⟩:=L8 h
   exact⟨j+1,by simpa using h1,by simpa using h2⟩
theorem HR.ext (h:HR G w S H)(k:∀b o,H b=some o->H' b=some o):HR G {w with F:=Fz w.ρ w.hid S H' } S H'/\w.le {w with F:=Fz w.ρ w.hid S H' }:=by
 have hF:∀b o,w.F b=some o->Fz w.ρ w.hid S H' b=some o:=λb o e=>by
  rw[h.F] at e;unfold Fz at e ⊢
  split at e
  ·cases e
  ·rename_i hn
   rw[if_neg hn];exact k b o e
 have le:w.le {w with F:=Fz w.ρ w.hid S H' }:=⟨rfl,zah _,λ_ _=>rfl,hF,rfl⟩
 exact⟨⟨h.K,h.n,rfl,λi c e=>(h.cell i c e).mono le λu eu=>k _ _ eu,h.inj,λb o e=>k b o (h.hid b o e),h.jJ,h.hl⟩,le⟩
section
variable {P:Program}{pW:World}{K:W.Frag}{mg:Str->Option Value}{base:Heap}{N:List Str}{b_:Str}{scope:Scope}{f:Addr}{eY:Value}{A:Around}{outer:List Env}{s₀:Shared}{H₀:Hp}{E:XK}{cl:Str->Addr}{k:Nat}
noncomputable def UK (C:Addr)(n:Nat)(g:List V->List (Str×V)):Sp:=λvs H Q _=>∃(a:Addr) (xs:List V),vs = .ref a::xs/\xs.length=n/\H a=some (EO a C none) /\
 ∀(d:Addr) (H':Hp),H d=none->H' a=some (EO a C (some d))->H' d=some (ED d (g xs))->(∀b o,H b=some o->b≠a->H' b=some o)->Q .bu H'
theorem HR.aaf (h:HR G w S H)(hx:H x=none)(hd:H d=none)(dx:d≠x)(h2x:H2 x=some (EO x (G.cl c) (some d)))(h2d:H2 d=some (ED d sM))
  (kp:∀b o,H b=some o->H2 b=some o) (hT:H2 T=none) (Tx:T≠x) (r:RK w fs sM):∃w',w.le w'/\w'.ρ S.length=x/\HR G w' (S++[.sL c fs]) (bF (bF H2 x (qy x (G.cl c) (some d) T)) T (TB T)):=by
 have h3:∀b o,H b=some o->(λb=>if b=x then none else H2 b) b=some o:=λb o e=>by
  show (if b=x then none else H2 b)=some o
  rw[if_neg λz=>by subst z;rw[hx] at e;cases e]
  exact kp b o e
 obtain⟨dR,fC⟩:=h.ext (H':=λb=>if b=x then none else H2 b) h3
 have Ze:(λb=>if b=x then none else H2 b) T=none:=by
  show (if T=x then none else H2 T)=none
  rw[if_neg Tx,hT]
 obtain⟨pM,lV⟩:=dR.lay Ze (TB T)
 have dT:d≠T:=λz=>by rw[z,hT] at h2d;cases h2d
 have hp:bF (λb=>if b=x then none else H2 b) T (TB T) x=none:=by
  rw[au Tx.symm];show (if x=x then none else H2 x)=none
  rw[if_pos rfl]
 have hH:bF (bF (λb=>if b=x then none else H2 b) T (TB T)) x (qy x (G.cl c) (some d) T)=bF (bF H2 x (qy x (G.cl c) (some d) T)) T (TB T):=by
  funext b
  by_cases b1:b=x
  ·subst b1
   rw[az,au Tx.symm,az]
  ·rw[au b1]
   by_cases b2:b=T
   ·subst b2
    rw[az,az]
   ·rw[au b2,au b2,au b1]
    show (if b=x then none else H2 b)=_
    rw[if_neg b1]
 have LB:=Wd.sN { {w with F:=Fz w.ρ w.hid S λb=>if b=x then none else H2 b} with F:=bF (Fz w.ρ w.hid S λb=>if b=x then none else H2 b) T (TB T)} x
 obtain⟨JM,_⟩:=pM.Ib hp (o:=qy x (G.cl c) (some d) T) (c:=.sL c fs) rfl (by
  refine⟨T,d,sM,az,az,?_,Tx,dx,r.mono (fC.trans (lV.trans LB))⟩
  show bF (Fz w.ρ w.hid S λb=>if b=x then none else H2 b) T (TB T) d=_
  rw[au dT];unfold Fz;rw[if_neg (h.free hd)];show (if d=x then none else H2 d)=_
  rw[if_neg dx,h2d])
 rw[hH] at JM;refine⟨_,fC.trans (lV.trans LB),?_,JM⟩
 show (if S.length=w.n then x else w.ρ S.length)=x
 rw[if_pos h.n.symm]
noncomputable def zg (c:Str)(n:Nat)(gT:List Tr->List (Str×Tr))(FN:List Tr)(fr:En->Cs->R (List Tr)):Sm:=λτ S=>(fr τ S).bP λts S1=>if ts.length+FN.length=n/\n<=1000 then .ex S1.length (S1++[.sL c (gT (ts++FN))]) else .aG
theorem L_ 
  (M:oF K (cl c) fi bm) (F:aN P pW K mg base dM j fi fd ps (UK (cl c) n g)) (hj:j+1<=k) (hm:mg x=some (.ref (cl c))) (hb:eB K fd ps ds) (hd:bN mG ds) (hdt:∀w,bK w FN mG) (hg:∀w ts vs,bK w ts vs->ts.length=n->RK w (gT ts) (g vs))
  (ha:vO ⟨K,cl,E⟩ k (je (vF P pW) P pW K mg base N b_ scope f eY A outer s₀ H₀ E) (e::es) fr)
  (hgl:autoParam (Gl (je (vF P pW) P pW K mg base N b_ scope f eY A outer s₀ H₀ E) x) zp_0) (sf:autoParam ((x == ("__debug__" : Str))=false) zp_1) (hs:autoParam (dP e=false) zp_0) (JK:autoParam (dc es=true) zp_0) (Ae:autoParam (0<k) zp_2):
  yS ⟨K,cl,E⟩ k (je (vF P pW) P pW K mg base N b_ scope f eY A outer s₀ H₀ E) (.Raise (some (.Call (.Name x p) (e::es) [] gU)) none pos) (zg c n gT FN fr):=.mk<|λox =>
 (Le (Y4 (X:=je (vF P pW) P pW K mg base N b_ scope f eY A outer s₀ H₀ E) (E:=E0) M F ((ox.room Ae).mono hj) hgl hm hb hd (λ_ _ _ _ _ _ _ h=>h.elim) (ha ox) sf (eO hs) (gr JK))).wk λD σ H h=>by
  obtain⟨w,S,τ,hr,sl,q⟩:=h;refine⟨w,S,τ,hr,sl,(cC.aE q).mono λvs H1 bS=>?_⟩
  obtain⟨w1,S1,ts,dh,bO,r1,_,q1⟩:=bS;split at q1
  ·rename_i hn
   have hl:vs.length<=1000:=by rw[r1.len];omega
   refine⟨hl,λx' Up=>⟨x',vs++mG,rfl,?_,az,λd H' Uc e1 e2 kp=>⟨rfl,x',cl c,fi,bm,some d,rfl,e1,M,λT hT Tx=>?_⟩⟩⟩
   ·rw[zaf,r1.len,(hdt w1).len];exact hn.1
   ·have dx:d≠x':=λz=>by rw[z,az] at Uc;cases Uc
    have hd2:H1 d=none:=by rw[au dx] at Uc;exact Uc
    obtain⟨w',le',ρx,qW⟩:=bO.aaf (c:=c) (fs:=gT (ts++FN)) (sM:=g (vs++mG)) Up hd2 dx e1 e2 (λb o eb=>kp b o (by rw[au λz=>by rw[z,Up] at eb;cases eb];exact eb) λz=>by rw[z,Up] at eb;cases eb) hT Tx (hg w1 _ _ (r1.rq (hdt w1)) (by rw[zaf];exact hn.1))
    obtain⟨c',JH,ec,kk⟩:=q1;have ec2:c'=c:=by
     simp only[mP] at ec;cases ec;rfl
    subst ec2
    have:=kk w' _ le' qW
    rw[ρx] at this;exact this
  ·exact q1.elim
noncomputable def fnX (N:List Str)(sb:Sm):Fn:=λts S=>match sb (gy N ts) S with|.nx _ S'=>.ok .bu S' | .rt t S'=>.ok t S' | .ex n S'=>.ex n S' | _=>.aG
theorem aag {st:Stmt}(F:KS K x b_ st f fd)(Sc:aq N ps (aj st))
  (hb:∀eY A outer s H E,Ic ⟨K,cl,E⟩ k (je (vF P pW) P pW K mg base N b_ (aj st) f eY A outer s H E) (cP st) sb):aN P pW K mg base (vF P pW) (k+1) f fd ps (dz K cl ps.length (fnX N sb)):=by
 refine F.okX Sc (λvs H Q E dB=>by obtain⟨w,S,ts,hr,r,hn,_⟩:=dB;rw[r.len,hn]) λeY A outer s H vs Q E hr eZ=>?_
 obtain⟨w,S,ts,Pe,r,hn,q⟩:=eZ;refine⟨_,hb eY A outer s H E ⟨rfl,λ_=>rfl,λ_=>hr,zcA (Nat.add_le_add_right (zcl _ _) 200) hr.un⟩,w,S,gy N ts,Pe,Sl.cS N r,?_⟩
 unfold fnX at q;cases e:sb (gy N ts) S with
 |nx oS S'=>rw[e] at q;exact λw' H' dS le qW JX=>q w' H' _ le qW sP
 |rt t S'=>rw[e] at q;exact λw' H' v le qW rv=>q w' H' v le qW rv
 |bk oS S'=>rw[e] at q;exact q.elim
 |ct oS S'=>rw[e] at q;exact q.elim
 |ex oS S'=>rw[e] at q;exact q
 |aG=>rw[e] at q;exact q.elim
end
theorem zh (hC:s.heap.get? C=some (excClassObj nm q C N bs bm qR sn sub ab sF dd k0 k1 k2 k3 k5 oG))(hB:s.heap.get? B=some (excClassObj Uu q' B N' Uv JL qz Uw AG Ux AH CB j0 j1 j2 j3 j5 lU))
  (he:s.heap.get? a=some oe) (JY:oe.cls = .ref C) (hb:JL.contains (.type "BaseException")=true) (h2:(Value.ref C::bm).contains (.ref B)=true) (hq:Q true s):wpAny M A (excMatches (.ref a) (.ref B)) Q E s:=by
 have h1:(Value.ref B::JL).contains (.type "BaseException")=true:=by rw[zby,hb,zcx]
 have f:=tc_notTuple;obtain⟨hp,g,d,tk,os⟩:=s;unfold excMatches;repeat (first | (with_reducible refine zbC he ?_;rw[JY])|with_reducible refine zbC hB ?_ | (with_reducible refine zcp hB ?_;rw[h1]) | (with_reducible refine zcp hC ?_;rw[h2])|wp_step)
 exact hq
noncomputable def rV.alI (D:rV)(l:Nat):rV:={nx:=λσ H=>D.nx (σ.set l none) H,bk:=λσ H=>D.bk (σ.set l none) H,ct:=λσ H=>D.ct (σ.set l none) H,rt:=D.rt}
noncomputable def aah (K:W.Frag)(B:Addr)(kk:Addr->Hp->Prop):XK:=λcls oa H2=>∃(a C f:Addr) (bm:List Value) (od:Option Addr) (T:Addr),oa=some a/\cls = .ref C/\oF K C f bm/\(Value.ref C::bm).contains (.ref B)=true /\
 H2 a=some (qy a C od T)/\H2 T=some (TB T)/\T≠a/\∀T',H2 T'=none->T'≠a->kk a (bF (bF H2 a (qy a C od T')) T' (TB T'))
noncomputable def aai (K:W.Frag)(C:Addr)(m:Str)(B:Addr)(l:Nat)(sp:Sp)(ta:TE)(t:TA)(ts:TS):TS:=λD σ H=>E2 C m sp [] (aah K B λa H'=>ts (D.alI l) (σ.set l (some (.ref a))) H') ta t σ H λ_ H3=>D.nx σ H3
section
variable {X:Cx}{k:Nat}{g B C:Addr}{fd:FuncData}{ps:List Str}{sp:Sp}{e o:Expr}{es:List Expr}{ta:TE}{t:TA}{n m cB:Str}{l:Nat}{p cp ap np ep hp pos:Pos}{kW:List Stmt}{qX:Stmt}{ts:TS}
 {Uu q':Str} {N':Addr} {Uv JL:List Value} {qz:Bool} {Uw:List Str} {AG:List Value} {Ux:Bool} {AH:Option Bool} {CB:Option Addr} {j0 j1 j2 j3 j5:Option Value} {lU:String}
theorem Iu {D:rV}(UL:X.fQ=true)(zj:X.c8=X.env::X.outer)(HS:X.env.frame=some X.env.locals)(hgB:Gl X cB)(hmB:X.mg cB=some (.ref B))
  (hB:X.K.lookup B=some (excClassObj Uu q' B N' Uv JL qz Uw AG Ux AH CB j0 j1 j2 j3 j5 lU)) (hbB:JL.contains (.type "BaseException")=true) (RE:(cB == ("__debug__" : Str))=false)
  (I1:aL X ah σ H1 s1) (hq:vF X.prog X.w X.c8 H1 s1 (aah X.K B kk) ev s')
  (hs:∀a C od T' s4 H4,ev = .ref a->H4 a=some (qy a C od T')->H4 T'=some (TB T')->aL (X.j8 a) ah σ H4 s4->kk a H4->codeAny (model X.prog X.w) (X.A.mark (some (.ref a))) (.handlers (.ref a) [.ExceptHandler none name (qX::kW) hp] X.env) (λr lM=>match r with
     |.ok f=>(match name with
      |none=>SP X ah D f lM
      |some n=>wpAny (model X.prog X.w) X.A (do bindName X.env n .none;unbindBehindTheSuite X.env n hp) (λ_ vH=>SP X ah D f vH) X.xe lM)
     |.error x=>cameBackBy (model X.prog X.w) X.A X.env X.xe x lM) s4):
  wpAny (model X.prog X.w) X.A (noteFrame ev X.env) (λ_ lM=>wpAny (model X.prog X.w) X.A (setFlight ev none) (λ_ vH=>wpAny (model X.prog X.w) X.A (handleBy ev X.env [.ExceptHandler (some (.Name cB np)) name (qX::kW) hp]) (SP X ah D) X.xe vH) X.xe lM) X.xe s':=by
 obtain⟨a,_,_,_,H2,rfl,YO,agL,un,cA,_,_,_,a9,C,f,bm,od,T,ea,ec,Mk,DI,ha2,hT2,Ta,kq⟩:=hq;cases ea;have I2:aL X ah σ H2 s':=I1.ET (ch:=[]) YO un cA agL (λb z=>absurd z (by simp))
 obtain⟨t0,ga⟩:=(show ∃t,s'.heap.get? a=some (iR C od t (.ref T)) from (I2.cA a _ ha2).1)
 have gT:vL s'.heap T:=(I2.cA T _ hT2).1
 have ly:s'.heap.FunFrames X.base (X.env::X.outer):=by rw[<-zj];exact I2.An.ly
 have frames:X.A.frames=some (X.env::X.outer):=by rw[<-zj];exact I2.ok.frames
 refine HV (base:=X.base) frames ly HS ga gT Ta λh1 h' T' k1 tb1 z1 Lf=>?_
 have Ta':T'≠a:=zcg (zal (zam ga) (by rw[<-z1];exact Lf.new))
 have nT':H2 T'=none:=I2.cA.fresh (by rw[<-z1];exact Lf.new)
 have I3:aL X ah σ (bF (bF H2 a (qy a C od T')) T' (TB T')) {s' with heap:=h' }:=I2.Lg ha2 hT2 Ta Ta' k1 tb1 z1 (by rw[zj];exact Lf)
 have I3m:=I3.j8 a;refine wpAny_handleBy_cons (codeAny_handlers_test (mE I3m hgB hmB ?_ RE)) (by intro q;cases q)
 obtain⟨nm,qn,N0,bs,sn,sub,ab,sF,dd,k0,k1',k2,k3,k5,lk⟩:=Mk.lG;refine zh (I3.nY _ _ lk) (I3.nY _ _ hB) Lf.lG rfl hbB DI ?_
 exact hs a C od T' _ _ rfl (by rw[au Ta'.symm,az]) az I3m (kq T' nT' Ta')
theorem DJ (I:aL X ah σ H s)(ha:H a=some (qy a C od T))(hT:H T=some (TB T))
  (h:∀s',aL X ah σ H s'->Q () s'):wpAny M A (setFlight (.ref a) none) Q E s:=by
 obtain⟨t0,e1⟩:=(show ∃t,s.heap.get? a=some (iR C od t (.ref T)) from (I.cA a _ ha).1)
 obtain⟨oT,ts,eT,dT,h3⟩:=(show vL s.heap T from (I.cA T _ hT).1)
 unfold setFlight;refine zaa (zbs e1 rfl (x:=.ref T) rfl ?_)
 rw[if_pos (show (Value.ref T != Value.none)=true from by simp)]
 have sz:=(zdl.mp h3).1
 refine zbH eT dT sz ?_
 have fT:(s.heap.update T (Obj.mapFields (·.setIfInBounds 3 ((none:Option Addr).elim Value.none λf=>rawInt f)))).get? T=some (Obj.mapFields (·.setIfInBounds 3 ((none:Option Addr).elim Value.none λf=>rawInt f)) oT):=zaV _ eT (zch (zbk dT _))
 have tb4:vL (s.heap.update T (Obj.mapFields (·.setIfInBounds 3 ((none:Option Addr).elim Value.none λf=>rawInt f)))) T:=⟨_,_,fT,zbk dT _,by simp[sz]⟩
 have I4:=I.jf (x:=T) (e:=T) (o:=TB T) (t':=s.toks) (h':=s.heap.update T (Obj.mapFields (·.setIfInBounds 3 ((none:Option Addr).elim Value.none λf=>rawInt f))))
  (by rw[hT];exact True.intro) (.inl rfl) (λb u nb hb=>(zaC _ _ (zbd nb)).trans hb) ⟨_,fT⟩ (Fd tb4)
 rw[AD hT] at I4;exact h _ I4
theorem Ma (UL:X.fQ=true)(zj:X.c8=X.env::X.outer)(HS:X.env.frame=some X.env.locals)(hgB:Gl X cB)(hmB:X.mg cB=some (.ref B))
  (hB:X.K.lookup B=some (excClassObj Uu q' B N' Uv JL qz Uw AG Ux AH CB j0 j1 j2 j3 j5 lU)) (hbB:JL.contains (.type "BaseException")=true)
  (he:PE X.Cz o ta) (c:vE X.K C) (hm:cI X.K C m g) (F:aN X.prog X.w X.K X.mg X.base (vF X.prog X.w) k g fd ps sp) (hr:gE k X.A) (hb:eB X.K fd ps []) (ha:PA X.Cz (e::es) t)
  (hN:X.N.Nodup) (hl:X.N[l]? = some n) (rA:X.env.scope.names.lookup n=some .local) (hs:∀a,vY (X.j8 a).Cz (qX::kW) ts)
  (RE:autoParam ((cB == ("__debug__" : Str))=false) zp_1) (QL:autoParam (swapsWith (.Call (.Attribute o m ap) (e::es) [] cp) none ep.line X.env=pure false) zp_0)
  (qm:autoParam (starEach (e::es) X.env=(false,eval e X.env)::starEach es X.env) zp_0) (iA:autoParam ((backTo cp (starEach es X.env)).any (·.1)=false) zp_0)
  (ht:autoParam (eval (.Call (.Attribute o m ap) (e::es) [] cp) X.env=(do
   let ov <-eval o X.env
   standAt ap.atName
   let (f,first) <-holding [ov] (getMethod ov m pl)
   callWith cp f first (backTo cp (starEach (e::es) X.env)) (backToKw cp (keywordEach [] X.env)))) zp_0):
  PS X (.Try [.Expr (.Call (.Attribute o m ap) (e::es) [] cp) ep] [.ExceptHandler (some (.Name cB np)) (some n) (qX::kW) hp] [] [] pos) (aai X.K C m B l sp ta t ts):=by
 intro ah s σ H D I h;have hhd:X.fQ=true->X.A.handled=none:=I.ok.hd
 refine wpAny_Try_except (zdy (wpAny_Expr_any ?_ I.quiet QL))
 refine W.methodCall_KW (pl:=pl) (zaI (he ah s σ H _ (I.qN _) h) (λu s1 bS=>?_) λ_ _ z=>z.elim) ht
 obtain⟨x,H1,I1',rx,a,dx,fs,ex,ea,lk,q⟩:=bS;have I1:aL X ah σ H1 s1:=I1'.f_
 subst ex;obtain rfl:u=Value.ref a:=rx
 refine nB I1 ea c hm lk ?_
 refine W.callWith_K (first:=[.ref a]) (h₀:= X.base) I.ok.rS.XZ hm.kp (zaI (ha cp ah s1 σ H1 _ I1' q) (λus s2 ⟨vs,H2,I2',r,q2⟩=>⟨I2'.f_.nY,?_⟩) λ_ _ z=>z.elim) qm iA
 have I2:aL X ah σ H2 s2:=I2'.f_
 have r2:bN (V.ref a::vs) (Value.ref a::us):=.cons rfl r
 have q2:sp (V.ref a::(vs++[])) H2 _ _:=q2
 rw[zaz] at q2;have dm:(Value.ref a::us).length=ps.length:=by rw[<-r2.length];exact F.len _ _ _ _ q2
 have aE:=hb s2 (Value.ref a::us) I2.nY (by rw[zaz];exact dm)
 rw[zaz] at aE;refine zcC (zcv (F.jW X.A X.c8 s2 H2 ⟨Value.ref a::us,[]⟩ (Value.ref a::us) (V.ref a::vs) _ _ hr I2.An aE r2 q2) λrr s' hq=>?_)
 cases rr with
 |ok fl =>
  cases fl with
  |ret u =>
   obtain⟨v,H3,I3,rv,q3⟩:=I2.after hq;exact zcr (zcr ⟨σ,H3,I3,q3⟩)
  |next=>exact False.elim hq
  |brk=>exact False.elim hq
  |cont=>exact False.elim hq
 |error ev =>
  refine Iu UL zj HS hgB hmB hB hbB RE I2 hq λa C od T' s4 H4 _ ha4 hT4 I4 kq=>?_
  refine codeAny_handlers_suite_as (DJ I4 ha4 hT4 λs5 I5=>?_)
  refine om (X:=X.j8 a) I5 hN hl (.inl rA) (v:=.ref a) rfl (λs6 I6=>?_) (.inr rA)
  refine zaI (hs a ah s6 (σ.set l (some (.ref a))) H4 _ (I6.qN _) kq) (λfl s7 h7=>?_) λ_ _ z=>z.elim
  cases fl with
  |next=>obtain⟨dS,H',I7,q7⟩:=h7;exact rm (I7.f_.oH hhd) hN hl rA λs8 I8=>⟨_,_,I8,q7⟩
  |brk=>obtain⟨dS,H',I7,q7⟩:=h7;exact rm (I7.f_.oH hhd) hN hl rA λs8 I8=>⟨_,_,I8,q7⟩
  |cont=>obtain⟨dS,H',I7,q7⟩:=h7;exact rm (I7.f_.oH hhd) hN hl rA λs8 I8=>⟨_,_,I8,q7⟩
  |ret u=>obtain⟨v,dS,H',I7,r7,q7⟩:=h7;exact rm (I7.f_.oH hhd) hN hl rA λs8 I8=>⟨v,_,_,I8,r7,q7⟩
end
noncomputable def wR (S:Cs)(n:Nat):Option (Str×List (Str×Tr)):=match S[n]? with|some (.sL c fs)=>some (c,fs)|_=>none
theorem kD (h:wR S n=some (c,fs)):S[n]? = some (.sL c fs):=by
 unfold wR at h;split at h
 ·cases h;assumption
 ·cases h
noncomputable def Mb (G:Gx)(cs:List Str)(g:Str):Prop:=∀c∈cs,(∃f bm,oF G.K (G.cl c) f bm)/\W.findIn G.K (.ref (G.cl c)) g=some none
noncomputable def A1 (cs:List Str)(g:Str)(t:Tr)(S:Cs):R Tr:=match t with
 |.hd n=>(match wR S n with|some (c,fs)=>if c∈cs then (match aQ g fs with|some u=>.ok u S|none=>.aG) else .aG|none=>.aG)
 |_=>.aG
noncomputable def FO (cs:List Str)(g:Str)(fo:Em):Em:=λτ S=>(fo τ S).aE λt S1=>A1 cs g t S1
section
variable {G:Gx}{k:Nat}{X:Cx}{o a:Expr}{fo fa:Em}{pos p p2:Pos}
theorem FP (hf:Mb G cs f)(ho:TV G k X o fo)(hb:autoParam (attributeBase o f X.env (eval o X.env)=eval o X.env) zp_0):TV G k X (.Attribute o f pos) (FO cs f fo):=.mk<|λox=>(Li (ho ox) hb).wk λσ H Q h=>by
 obtain⟨w,S,τ,hr,sl,q⟩:=h;refine⟨w,S,τ,hr,sl,(bz.aE q).mono λx H1 bS=>?_⟩
 obtain⟨w1,S1,t1,dh,bO,r1,_,q1⟩:=bS;unfold A1 at q1;split at q1
 ·split at q1
  ·rename_i c fs ei
   split at q1
   ·rename_i hc
    split at q1
    ·rename_i u eu
     obtain⟨T,d,sM,h1,h2,h3,_,_,h4⟩:=bO.cell _ _ (kD ei)
     obtain⟨v,ev,rv⟩:=(gh (k:=f) h4).1 u eu
     obtain⟨⟨f',bm,M⟩,hn⟩:=hf c hc
     rw[<-ox.K] at M hn;exact⟨_,_,f',bm,d,T,sM,v,r1.c_.2,h1,bO.sub _ _ h3,M,hn,ev,q1 w1 H1 v (.refl _) bO rv⟩
    ·exact q1.elim
   ·exact q1.elim
  ·exact q1.elim
 ·exact q1.elim
structure Sys (K:W.Frag):Prop where
 get:W.specialIn K (.builtin "object.__class__") "__get__"=some (some (.builtin "getset_descriptor.__get__"))
 aov:W.takesIn K (.builtin "object.__class__")=some true
end
noncomputable def zk (l:Option Nat)(x:Option Tr)(τ:En):En:=match l with|some l=>τ.set l x|none=>τ
noncomputable def wU (l:Option Nat)(r:RS):RS:=match r with
 |.nx τ S=>.nx (zk l none τ) S
 |.bk τ S=>.bk (zk l none τ) S
 |.ct τ S=>.ct (zk l none τ) S
 |.rt t S=>.rt t S
 |_=>.aG
noncomputable def kE (cs:List Str)(l:Option Nat)(sh:Sm)(τ:En)(r:R Tr):RS:=match r with
 |.ok _ S=>.nx τ S
 |.ex e S=>(match wR S e with|some (c,_)=>if c∈cs then wU l (sh (zk l (some (.hd e)) τ) S) else .aG|none=>.aG)
 |.aG=>.aG
noncomputable def A2 (c m:Str)(n:Nat)(q:Fn)(fo:Em)(fr:En->Cs->R (List Tr))(cs:List Str)(l:Option Nat)(sh:Sm):Sm:=λτ S=>(fo τ S).bP λt S1=>match t with
 |.hd i=>(match iy S1 i with
  |some (c',fs)=>if c'=c/\(aQ m fs).isNone=true then (fr τ S1).bP λts S2=>(if (t::ts).length=n then kE cs l sh τ (q (t::ts) S2) else .aG) else .aG
  |none=>.aG)
 |_=>.aG
noncomputable def rE (G:Gx)(B:Addr)(cs:List Str):Prop:=∀c∈cs,∃f bm,oF G.K (G.cl c) f bm/\(Value.ref (G.cl c)::bm).contains (.ref B)=true
theorem iW {α:Type}:∀{l:List α} {i:Nat} {c:α},l[i]? = some c->l.set i c=l
 |[],i,c,h=>by simp at h
 |x::r,0,c,h=>by simp at h;simp[h]
 |x::r,i+1,c,h=>by simp only[zaE] at h;rw[zdi,iW h]
theorem HR.Lg (h:HR G w S H)(he:S[e]? = some (.sL c fs)):∃d T,H (w.ρ e)=some (qy (w.ρ e) (G.cl c) (some d) T)/\H T=some (TB T)/\T≠w.ρ e /\
  ∀T',H T'=none->T'≠w.ρ e->∃w',w.le w'/\w'.ρ=w.ρ /\ HR G w' S (bF (bF H (w.ρ e) (qy (w.ρ e) (G.cl c) (some d) T')) T' (TB T')):=by
 obtain⟨T,d,sM,h1,h2,h3,h4,h5,h6⟩:=h.cell _ _ he;refine⟨d,T,h1,h.sub _ _ h2,h4,λT' hT' ne=>?_⟩
 obtain⟨dR,fC⟩:=h.lay hT' (TB T')
 have hdT:d≠T':=λz=>by rw[z,h.Lr hT'] at h3;cases h3
 have pM:=dR.C8 he rfl (c':=.sL c fs) rfl (o:=qy (w.ρ e) (G.cl c) (some d) T') ⟨T',d,sM,az,az,by show bF w.F T' (TB T') d=_;rw[au hdT];exact h3,ne,h5,h6.mono fC⟩
 rw[iW he] at pM;refine⟨_,fC,rfl,?_⟩
 have:bF (bF H (w.ρ e) (qy (w.ρ e) (G.cl c) (some d) T')) T' (TB T')=bF (bF H T' (TB T')) (w.ρ e) (qy (w.ρ e) (G.cl c) (some d) T'):=by
  funext b
  by_cases b1:b=T'
  ·subst b1;rw[az,au ne,az]
  ·rw[au b1]
   by_cases b2:b=w.ρ e
   ·subst b2;rw[az,az]
   ·rw[au b2,au b2,au b1]
 rw[this];exact pM
section
variable {K:W.Frag}{cl:Str->Addr}{k j n:Nat}{X:Cx}{f B:Addr}{fd:FuncData}{ps:List Str}{q:Fn}{m cB nn c:Str}{p cp ap np ep hp pos:Pos}{e o:Expr}{es:List Expr}{fr:En->Cs->R (List Tr)}{fo:Em}{kW:List Stmt}{qX:Stmt}{sh:Sm}{l:Nat}{cs:List Str}
 {Uu q':Str} {N':Addr} {Uv JL:List Value} {qz:Bool} {Uw:List Str} {AG:List Value} {Ux:Bool} {AH:Option Bool} {CB:Option Addr} {j0 j1 j2 j3 j5:Option Value} {lU:String}
theorem HR.swE (h:HR ⟨K,cl,E⟩ w S H):HR ⟨K,cl,E'⟩ w S H:=HR.unx (G:=⟨K,cl,E'⟩) (HR.nx (G:=⟨K,cl,E⟩) h)
theorem Mc {lo:Option Nat}(hC:rE ⟨K,cl,E⟩ B cs)(sl:Sl w2 τ σ)(q2:cC ⟨K,cl,E⟩ w2 (kE cs lo sh τ r) D)
  (hkk:∀a H',(∃w S n,w2.le w/\HR ⟨K,cl,E⟩ w S H'/\n<w.n/\a=w.ρ n/\cC ⟨K,cl,E⟩ w (wU lo (sh (zk lo (some (.hd n)) τ) S)) D)->kk a H'):bz RT ⟨K,cl,aah K B kk⟩ w2 r λ_ H3=>D.nx σ H3:=by
 cases r with
 |ok a S3=>exact λw' H' b le qW _=>q2 w' H' σ le qW.swE (sl.mono le)
 |aG=>exact q2
 |ex en S3 =>
  unfold kE at q2;simp only at q2
  split at q2
  ·rename_i c2 fs2 ei
   split at q2
   ·rename_i hc
    refine⟨c2,fs2,kD ei,λw' H' le qW=>?_⟩
    obtain⟨d,T,h1,h2,h3,h4⟩:=qW.Lg (kD ei)
    obtain⟨f',bm,M,DI⟩:=hC c2 hc;refine⟨_,_,f',bm,some d,T,rfl,rfl,M,DI,h1,h2,h3,λT' a1 a2=>?_⟩
    obtain⟨w3,lV,e3,pM⟩:=h4 T' a1 a2;have hn:en<w3.n:=by
     have:=(zab.mp (kD ei)).1
     rw[pM.n];exact this
    exact hkk _ _ ⟨w3,S3,en,le.trans lV,pM.swE,hn,by rw[e3],cC.wd (le.trans lV) q2⟩
   ·exact q2.elim
  ·exact q2.elim
theorem Me {pl:Sem Bool}(hB:K.lookup B=some (excClassObj Uu q' B N' Uv JL qz Uw AG Ux AH CB j0 j1 j2 j3 j5 lU))(hbB:JL.contains (.type "BaseException")=true)(hC:rE ⟨K,cl,E0⟩ B cs)(hmB:X.mg cB=some (.ref B))
  (hc:vE K (cl c)) (hM:cI K (cl c) m f) (F:aN X.prog X.w X.K X.mg X.base (vF X.prog X.w) j f fd ps (dz K cl n q)) (hj:j<=k) (hb:eB X.K fd ps []) (ho:TV ⟨K,cl,E0⟩ k X.Cz o fo) (ha:vO ⟨K,cl,E0⟩ k X.Cz (e::es) fr)
  (hN:X.N.Nodup) (hs:∀a,Ic ⟨K,cl,E0⟩ 0 (X.j8 a).Cz (qX::kW) sh) (hl:X.N[l]? = some nn) (rA:X.env.scope.names.lookup nn=some .local) (zj:autoParam (X.c8=X.env::X.outer) zp_0) (HS:autoParam (X.env.frame=some X.env.locals) zp_0)
  (hgB:autoParam (Gl X cB) zp_0) (RE:autoParam ((cB == ("__debug__" : Str))=false) zp_1) (QL:autoParam (swapsWith (.Call (.Attribute o m ap) (e::es) [] cp) none ep.line X.env=pure false) zp_0)
  (qm:autoParam (dP e=false) zp_0) (iA:autoParam (dc es=true) zp_0)
  (ht:autoParam (eval (.Call (.Attribute o m ap) (e::es) [] cp) X.env=(do
   let ov <-eval o X.env
   standAt ap.atName
   let (f,first) <-holding [ov] (getMethod ov m pl)
   callWith cp f first (backTo cp (starEach (e::es) X.env)) (backToKw cp (keywordEach [] X.env)))) zp_0) (Ae:autoParam (0<k) zp_2):
  yS ⟨K,cl,E0⟩ k X (.Try [.Expr (.Call (.Attribute o m ap) (e::es) [] cp) ep] [.ExceptHandler (some (.Name cB np)) (some nn) (qX::kW) hp] [] [] pos) (A2 c m n q fo fr cs (some l) sh):=.mk<|λox =>
 (Ma (pl:=pl) (C:=cl c) (ox.fQ Ae) zj HS hgB hmB (by rw[ox.K];exact hB) hbB (ho ⟨ox.K,ox.fQ,ox.room,ox.un⟩) (by rw[ox.K];exact hc) (by rw[ox.K];exact hM) F ((ox.room Ae).mono hj) hb (ha ⟨ox.K,ox.fQ,ox.room,ox.un⟩) hN hl rA (λa=>hs a ⟨ox.K,λz=>absurd z (zaP 0),λz=>absurd z (zaP 0),ox.un⟩) RE QL (eO qm) (gr iA) ht).wk λD σ H h=>by
  obtain⟨w,S,τ,hr,sl,qq⟩:=h;refine⟨w,S,τ,hr,sl,(cC.aE qq).mono λv H1 iP=>?_⟩
  obtain⟨w1,S1,t,dh,bO,r1,_,q1⟩:=iP;split at q1
  ·split at q1
   ·rename_i c' fs ei
    split at q1
    ·rename_i hc
     obtain⟨rfl,hm⟩:=hc;obtain⟨dx,sM,h1,h2⟩:=bO.cell _ _ (e9 ei)
     refine⟨_,dx,sM,r1.c_.2,h1,(gh (k:=m) h2).2 (zdw.mp hm),w1,S1,τ,bO,sl.mono dh,(cC.aE q1).mono λvs H2 iQ=>?_⟩
     obtain⟨w2,S2,ts,fC,dR,r2,_,q2⟩:=iQ;split at q2
     ·rename_i hn
      rw[zaz];refine⟨w2,S2,_,dR.swE,.cons (RT.mono fC _ _ r1) r2,hn,?_⟩
      rw[ox.K];refine Mc hC ((sl.mono dh).mono fC) q2 λa H' lT=>?_
      obtain⟨w3,S3,en,lV,pM,hn3,ea,q3⟩:=lT;subst ea;refine⟨w3,S3,τ.set l (some (.hd en)),pM,((sl.mono dh).mono (fC.trans lV)).set l (t:=.hd en) (v:=.ref (w3.ρ en)) (by unfold RT;exact⟨hn3,rfl⟩),?_⟩
      have q3:cC ⟨K,cl,E0⟩ w3 (wU (some l) (sh (τ.set l (some (.hd en))) S3)) D:=q3
      generalize sh (τ.set l (some (.hd en))) S3=z at q3 ⊢
      cases z with
      |nx jT S4=>exact λw' H' dS le qW JX=>q3 w' H' _ le qW (JX.Lv l none)
      |bk jT S4=>exact λw' H' dS le qW JX=>q3 w' H' _ le qW (JX.Lv l none)
      |ct jT S4=>exact λw' H' dS le qW JX=>q3 w' H' _ le qW (JX.Lv l none)
      |rt jT S4=>exact q3
      |ex jT S4=>exact q3.elim
      |aG=>exact q3
     ·exact q2.elim
    ·exact q1.elim
   ·exact q1.elim
  ·exact q1.elim
end
structure EC (K:W.Frag) (mg:Str->Option Value) (B:Addr) (x:Str) (C f:Addr) (st:Stmt) (fd:FuncData) (ps:List Str):Prop where
 M:oF K C f (.ref B::q_)
 m:mg x=some (.ref C)
 b:eB K fd ps []
 lk:∃(oc:Value) (od:Option Addr) (dV kV nD pm:Value) (an:Option Addr) (eY ct:Value) (C7:Array (Option Value)) (q:Str),
  fd=W.fnOf "__init__" q (dX st) (cP st) (aj st) dV kV nD pm an eY ct/\K.lookup f=some ⟨oc,od,.func fd,C7⟩/\W.codeIn K eY q=true
structure aam (K:W.Frag) (mg:Str->Option Value) (B:Addr) (cs:List (Str×Addr×Addr)):Prop where
 m:mg "BookError"=some (.ref B)
 EB:Us K B
 Pf:(W.clsIn K B).isSome=true
 tyB:W.typeIn K (.ref B)=some (.type "type")
 oB:∃nm q N bs hd sn sub ab sF dd j0 j1 j2 j3 j5 oG,K.lookup B=some (excClassObj nm q B N bs q_ hd sn sub ab sF dd j0 j1 j2 j3 j5 oG)
 sy:Sys K
 all:∀p∈cs,mg p.1=some (.ref p.2.1)/\oF K p.2.1 p.2.2 (.ref B::q_)
section
variable {P:Program}{w:World}{K:W.Frag}{mg:Str->Option Value}{base:Heap}{B:Addr}{cs:List (Str×Addr×Addr)}
theorem EC.ok {st:Stmt}(F:EC K mg B x C f st fd ps)(S:aq N ps (aj st))(len:∀vs H Q E,sp vs H Q E->vs.length=ps.length)
  (sj:∀(q:Str) (eY:Value) (A:Around) (outer:List Env) (s:Shared) (H:Hp) (vs:List V) (Q:VK) (E:XK),gE k (A.deeper (PyProof.Rows.envOfC q (aj st) s.heap.objs.size f eY))->sp vs H Q E ->
   ∃t,vY (je dM P w K mg base N q (aj st) f eY A outer s H E).Cz (cP st) t/\t {nx:=λ_ H'=>Q .bu H',rt:=Q} (L2.cS N vs) H):aN P w K mg base dM (k+1) f fd ps sp:=by
 obtain⟨oc,od,dV,kV,nD,pm,an,eY,ct,C7,q,rfl,lk,Aj⟩:=F.lk;refine Kp lk Aj S len λA outer s H vs Q E hr JI=>?_
 obtain⟨t,h,z⟩:=sj q eY A outer s H vs Q E hr JI;exact⟨t,h.Cz,z⟩
noncomputable def gE2 (g h:Str):List V->List (Str×V)|[_,y,z]=>[(g,y),(h,z)]|_=>[]
noncomputable def gT2 (g h:Str):List Tr->List (Str×Tr)|[_,y,z]=>[(g,y),(h,z)]|_=>[]
theorem gR2:∀w ts vs,bK w ts vs->ts.length=3->RK w (gT2 g h ts) (gE2 g h vs):=λw ts vs r hl=>by
 match ts,hl with
 |[a,b,c],_ =>
  obtain⟨x,r1,rfl,h1,h2⟩:=r.bD;obtain⟨y,r2,rfl,h3,h4⟩:=h2.bD;obtain⟨z,r3,rfl,h5,h6⟩:=h4.bD;rw[h6.cy];exact .cons h3 (.cons h5 .nil)
noncomputable def aan (K:W.Frag)(B:Addr):Prop:=∃nm q N bs bm hd sn sub ab sF dd j0 j1 j2 j3 j5 oG,K.lookup B=some (excClassObj nm q B N bs bm hd sn sub ab sF dd j0 j1 j2 j3 j5 oG)/\bm.contains (.type "BaseException")=true
theorem aam.lG (E:aam K mg B cs):aan K B:=by
 obtain⟨nm,q,N,bs,hd,sn,sub,ab,sF,dd,j0,j1,j2,j3,j5,oG,h⟩:=E.oB;exact⟨nm,q,N,bs,q_,hd,sn,sub,ab,sF,dd,j0,j1,j2,j3,j5,oG,h,by decide +kernel⟩
theorem oF.agO (M:oF K C f (.ref B::q_)):aan K C:=by
 obtain⟨nm,q,N,bs,sn,sub,ab,sF,dd,k0,k1,k2,k3,k5,h⟩:=M.lG;exact⟨nm,q,N,bs,_,true,sn,sub,ab,sF,dd,k0,k1,k2,k3,k5,_,h,by rw[zby,show q_.contains (.type "BaseException")=true by decide +kernel,zcx]⟩
theorem Mf:(Value.ref C::.ref B::q_).contains (.ref C)=true:=by simp[zby]
end
section
variable {K:W.Frag}{cl:Str->Addr}{k j n:Nat}{X:Cx}{f B:Addr}{fd:FuncData}{ps:List Str}{q:Fn}{m cB nn c:Str}{p cp ap np ep hp pos:Pos}{e o:Expr}{es:List Expr}{fr:En->Cs->R (List Tr)}{fo:Em}{kW:List Stmt}{qX:Stmt}{sh:Sm}{l:Nat}{cs:List Str}
theorem wV (hB:aan K B)(hC:rE ⟨K,cl,E0⟩ B cs)(hmB:X.mg cB=some (.ref B))
  (hc:vE K (cl c)) (hM:cI K (cl c) m f) (F:aN X.prog X.w X.K X.mg X.base (vF X.prog X.w) j f fd ps (dz K cl n q)) (hj:j<=k) (hb:eB X.K fd ps []) (ho:TV ⟨K,cl,E0⟩ k X.Cz o fo) (ha:vO ⟨K,cl,E0⟩ k X.Cz (e::es) fr)
  (hN:X.N.Nodup) (hs:∀a,Ic ⟨K,cl,E0⟩ 0 (X.j8 a).Cz (qX::kW) sh) (hl:X.N[l]? = some nn) (rA:X.env.scope.names.lookup nn=some .local) (zj:autoParam (X.c8=X.env::X.outer) zp_0) (HS:autoParam (X.env.frame=some X.env.locals) zp_0)
  (hgB:autoParam (Gl X cB) zp_0) (RE:autoParam ((cB == ("__debug__" : Str))=false) zp_1) (QL:autoParam (swapsWith (.Call (.Attribute o m ap) (e::es) [] cp) none ep.line X.env=pure false) zp_0)
  (qm:autoParam (dP e=false) zp_0) (iA:autoParam (dc es=true) zp_0)
  (ht:autoParam (eval (.Call (.Attribute o m ap) (e::es) [] cp) X.env=(do
   let ov <-eval o X.env
   standAt ap.atName
   let (f,first) <-holding [ov] (getMethod ov m pl)
   callWith cp f first (backTo cp (starEach (e::es) X.env)) (backToKw cp (keywordEach [] X.env)))) zp_0) (Ae:autoParam (0<k) zp_2):
  yS ⟨K,cl,E0⟩ k X (.Try [.Expr (.Call (.Attribute o m ap) (e::es) [] cp) ep] [.ExceptHandler (some (.Name cB np)) (some nn) (qX::kW) hp] [] [] pos) (A2 c m n q fo fr cs (some l) sh):=by
 obtain⟨_,_,_,_,_,_,_,_,_,_,_,_,_,_,_,_,_,h,hbB⟩:=hB;exact Me h hbB hC hmB hc hM F hj hb ho ha hN hs hl rA zj HS hgB RE QL qm iA ht Ae
end
theorem DK:gb (vF P w) X E0:=λ_ _ _ _ _ _ _ h=>by
 obtain⟨_,_,_,_,_,_,_,_,_,_,_,_,_,z⟩:=h;exact z.elim
noncomputable def kIf (a b:Sm)(τ:En):Bool->Cs->RS:=λx S=>if x=true then a τ S else b τ S
theorem agP:kIf a b τ true S=a τ S:=rfl
theorem agQ:kIf a b τ false S=b τ S:=rfl
theorem vIf:cO c a b τ S=(c τ S).bP (kIf a b τ):=rfl
noncomputable def kRt:Tr->Cs->RS:=λt S=>.rt t S
theorem agR:kRt t S = .rt t S:=rfl
theorem alM:aJ f τ S=(f τ S).bP kRt:=rfl
noncomputable def kNx {α:Type}(τ:En):α -> Cs->RS:=λ_ S=>.nx τ S
theorem agS {α:Type}{τ:En}{t:α}{S:Cs}:kNx τ t S = .nx τ S:=rfl
theorem agT:cQ f τ S=(f τ S).bP (kNx τ):=rfl
noncomputable def lD (i:Nat)(τ:En):Tr->Cs->RS:=λt S=>.nx (τ.set i (some t)) S
theorem alN:aX i f τ S=(f τ S).bP (lD i τ):=rfl
noncomputable def kEn:En->Cs->RS:=λτ S=>.nx τ S
theorem agU:kEn τ S = .nx τ S:=rfl
noncomputable def agV (b:Tr->En->Cs->R En)(τ:En):Tr->Cs->RS:=λt S=>(b t τ S).bP kEn
theorem aao:agV b τ t S=(b t τ S).bP kEn:=rfl
theorem alP:ZU f b τ S=(f τ S).bP (agV b τ):=rfl
theorem agW:aI τ S = .nx τ S:=rfl
noncomputable def DL (cs:List Str)(f:Str)(τ:En)(t:Tr):Tr->Cs->RS:=λu S=>(oQ cs f u t S).bP (kNx τ)
theorem Mg:DL cs f τ t u S=(oQ cs f u t S).bP (kNx τ):=rfl
noncomputable def UM (cs:List Str)(f:Str)(fo:Em)(τ:En):Tr->Cs->RS:=λt S=>(fo τ S).bP (DL cs f τ t)
theorem RG:UM cs f fo τ t S=(fo τ S).bP (DL cs f τ t):=rfl
theorem agX:bQ cs f fo fv τ S=(fv τ S).bP (UM cs f fo τ):=rfl
noncomputable def kB:Tr->Cs->R Bool:=λt S=>match t with|.bl b=>.ok b S|_=>.aG
theorem alQ:kB (.bl b) S = .ok b S:=rfl
theorem vB:mB f τ S=(f τ S).aE kB:=rfl
noncomputable def tF (g:Tr->Tr->Cs->R Tr)(fb:Em)(τ:En):Tr->Cs->R Tr:=λt S=>(fb τ S).aE (g t)
theorem aap:tF g fb τ t S=(fb τ S).aE (g t):=rfl
theorem alR:ai g fa fb τ S=(fa τ S).aE (tF g fb τ):=rfl
theorem vUn:mUn g fa τ S=(fa τ S).aE g:=rfl
theorem vC:mC t τ S = .ok t S:=rfl
theorem agY:b9 g fr τ S=(fr τ S).aE g:=rfl
noncomputable def fj (t:Tr):List Tr->Cs->R (List Tr):=λts S=>.ok (t::ts) S
theorem Mh:fj t ts S = .ok (t::ts) S:=rfl
noncomputable def Mi (r:En->Cs->R (List Tr))(τ:En):Tr->Cs->R (List Tr):=λt S=>(r τ S).aE (fj t)
theorem RH:Mi r τ t S=(r τ S).aE (fj t):=rfl
theorem agZ:af f r τ S=(f τ S).aE (Mi r τ):=rfl
theorem alS:ak τ S = .ok [] S:=rfl
noncomputable def zl:List Tr->Cs->R Tr:=λts S=>if ts.length<=sizeLine then .ok (.tp ts) S else .aG
theorem alT:c7 fr τ S=(fr τ S).aE zl:=rfl
noncomputable def zm:List Tr->Cs->R Tr:=λts S=>if ts.length<=sizeLine then .ok (.ls ts) S else .aG
theorem alU:kj fr τ S=(fr τ S).aE zm:=rfl
noncomputable def UN:List Tr->Cs->R Tr:=λts S=>if ts.length<=sizeLine then .ok (.hd S.length) (S++[.bM ts]) else .aG
theorem ag0:nj fr τ S=(fr τ S).aE UN:=rfl
noncomputable def kFn (n:Nat)(q:Fn):List Tr->Cs->R Tr:=λts S=>if ts.length=n then q ts S else .aG
theorem vFn:gj n q fr τ S=(fr τ S).aE (kFn n q):=rfl
noncomputable def tG (n:Nat)(q:Fn)(t:Tr):List Tr->Cs->R Tr:=λts S=>if (t::ts).length=n then q (t::ts) S else .aG
noncomputable def UP (c m:Str)(n:Nat)(q:Fn)(fr:En->Cs->R (List Tr))(τ:En):Tr->Cs->R Tr:=λt S1=>match t with
 |.hd i=>(match iy S1 i with
  |some (c',fs)=>if c'=c/\(aQ m fs).isNone=true then (fr τ S1).aE (tG n q t) else .aG
  |none=>.aG)
 |_=>.aG
theorem RI:UP c m n q fr τ (.hd i) S=match iy S i with
  |some (c',fs)=>if c'=c/\(aQ m fs).isNone=true then (fr τ S).aE (tG n q (.hd i)) else .aG
  |none=>.aG:=rfl
theorem ag1:aF c m n q fo fr τ S=(fo τ S).aE (UP c m n q fr τ):=rfl
noncomputable def tH (k:Nat):Tr->Cs->R Tr:=λr S=>match r with|.bu=>.ok (.hd k) S|_=>.aG
theorem Mj:tH k .bu S = .ok (.hd k) S:=rfl
noncomputable def FQ (c:Str)(n:Nat)(q:Fn):List Tr->Cs->R Tr:=λts S1=>if ts.length+1=n then (q (.hd S1.length::ts) (S1++[.d_ c []])).aE (tH S1.length) else .aG
theorem ag2:nu c n q fr τ S=(fr τ S).aE (FQ c n q):=by
 unfold nu FQ tH;rfl
theorem alV:aO cs f fo τ S=(fo τ S).aE (Ik cs f):=rfl
noncomputable def aaq (a b:Em)(τ:En):Bool->Cs->R Tr:=λx S=>if x=true then a τ S else b τ S
theorem aar:aaq a b τ true S=a τ S:=rfl
theorem aas:aaq a b τ false S=b τ S:=rfl
theorem alW:CI c a b τ S=(c τ S).aE (aaq a b τ):=rfl
noncomputable def ag3:Tr->Cs->R Tr:=λt S=>match t with|.bl b=>.ok (.bl (!b)) S|_=>.aG
theorem aat:ag3 (.bl b) S = .ok (.bl (!b)) S:=rfl
theorem alX:QY f τ S=(f τ S).aE ag3:=rfl
noncomputable def aau (tb:En->Cs->R Bool)(τ:En):Bool->Cs->R Bool:=λx S=>if x=true then tb τ S else .ok false S
theorem aav:aau tb τ true S=tb τ S:=rfl
theorem aaw:aau tb τ false S = .ok false S:=rfl
theorem alY:lB ta tb τ S=(ta τ S).aE (aau tb τ):=rfl
noncomputable def kOr (tb:En->Cs->R Bool)(τ:En):Bool->Cs->R Bool:=λx S=>if x=true then .ok true S else tb τ S
theorem ag4:kOr tb τ true S = .ok true S:=rfl
theorem ag5:kOr tb τ false S=tb τ S:=rfl
theorem vOr:JN ta tb τ S=(ta τ S).aE (kOr tb τ):=rfl
noncomputable def UQ:Bool->Cs->R Bool:=λx S=>.ok (!x) S
theorem RJ:UQ x S = .ok (!x) S:=rfl
theorem ag6:yU ta τ S=(ta τ S).aE UQ:=rfl
noncomputable def US (fb:Em)(τ:En):Tr->Cs->R Tr:=λt S=>alG t (fb τ S) S
theorem RL:US fb τ (.bl b) S=if b=true then fb τ S else .ok (.bl false) S:=by cases b<;>rfl
theorem ag7:Ie fa fb τ S=(fa τ S).aE (US fb τ):=rfl
noncomputable def ag8 (fb:Em)(τ:En):Tr->Cs->R Tr:=λt S=>orV t (fb τ S) S
theorem aax:ag8 fb τ (.bl b) S=if b=true then .ok (.bl true) S else fb τ S:=by cases b<;>rfl
theorem al0:mOr fa fb τ S=(fa τ S).aE (ag8 fb τ):=rfl
noncomputable def ag9 (ck:Cs->Tr->Bool)(g:Tr->List Tr->Cs->R Tr)(fr:En->Cs->R (List Tr))(τ:En):Tr->Cs->R Tr:=λt S=>if ck S t=true then (fr τ S).aE (g t) else .aG
theorem aay:ag9 ck g fr τ t S=if ck S t=true then (fr τ S).aE (g t) else .aG:=rfl
theorem al1:nJ ck g fo fr τ S=(fo τ S).aE (ag9 ck g fr τ):=rfl
noncomputable def aha (b:Tr->En->Cs->R En)(f:Sm)(τ:En):Ac->Cs->RS:=λs S=>fP s.gF b f s.items τ S
theorem aaz:aha b f τ s S=fP s.gF b f s.items τ S:=rfl
theorem al2:pT fi b f τ S=(fi τ S).bP (aha b f τ):=rfl
theorem vIt:sY g f τ S=(f τ S).aE g:=rfl
theorem ahb:FO cs g fo τ S=(fo τ S).aE (A1 cs g):=rfl
noncomputable def Ml (n:Nat)(q:Fn)(cs:List Str)(l:Option Nat)(sh:Sm)(τ:En)(t:Tr):List Tr->Cs->RS:=λts S=>if (t::ts).length=n then kE cs l sh τ (q (t::ts) S) else .aG
theorem RM:Ml n q cs l sh τ t ts S=if (t::ts).length=n then kE cs l sh τ (q (t::ts) S) else .aG:=rfl
noncomputable def ahc (c m:Str)(n:Nat)(q:Fn)(fr:En->Cs->R (List Tr))(cs:List Str)(l:Option Nat)(sh:Sm)(τ:En):Tr->Cs->RS:=λt S1=>match t with
 |.hd i=>(match iy S1 i with
  |some (c',fs)=>if c'=c/\(aQ m fs).isNone=true then (fr τ S1).bP (Ml n q cs l sh τ t) else .aG
  |none=>.aG)
 |_=>.aG
theorem aaA:ahc c m n q fr cs l sh τ (.hd i) S=match iy S i with
  |some (c',fs)=>if c'=c/\(aQ m fs).isNone=true then (fr τ S).bP (Ml n q cs l sh τ (.hd i)) else .aG
  |none=>.aG:=rfl
theorem al3:A2 c m n q fo fr cs l sh τ S=(fo τ S).bP (ahc c m n q fr cs l sh τ):=rfl
theorem DM:kE cs l sh τ (.ok t S) = .nx τ S:=rfl
theorem Iv:kE cs l sh τ (.ex e S)=match wR S e with|some (c,_)=>if c∈cs then wU l (sh (zk l (some (.hd e)) τ) S) else .aG|none=>.aG:=rfl
theorem RN:wU l (.nx τ S) = .nx (zk l none τ) S:=rfl
theorem RO:wU l (.rt t S) = .rt t S:=rfl
noncomputable def RS.aaB (r:RS):R Tr:=match r with|.nx _ S'=>.ok .bu S' | .rt t S'=>.ok t S' | .ex n S'=>.ex n S' | _=>.aG
theorem RP (τ:En)(S:Cs):(RS.nx τ S).aaB = .ok .bu S:=rfl
theorem RQ (t:Nat)(S:Cs):(RS.ex t S).aaB = .ex t S:=rfl
theorem aaC (t:Nat)(S:Cs)(g:Sm):(RS.ex t S).seq g = .ex t S:=rfl
theorem ahd (t:Nat)(S:Cs)(g:Sm):UH (.ex t S) g = .ex t S:=rfl
noncomputable def Mm (c:Str)(n:Nat)(gT:List Tr->List (Str×Tr))(FN:List Tr):List Tr->Cs->RS:=λts S1=>if ts.length+FN.length=n/\n<=1000 then .ex S1.length (S1++[.sL c (gT (ts++FN))]) else .aG
theorem Mn:Mm c n gT FN ts S=if ts.length+FN.length=n/\n<=1000 then .ex S.length (S++[.sL c (gT (ts++FN))]) else .aG:=rfl
theorem aaD:zg c n gT FN fr τ S=(fr τ S).bP (Mm c n gT FN):=rfl
theorem al4 (i j:Nat)(fr:En->Cs->R (List Tr))(τ:En)(S:Cs):alD i j fr τ S=((fr τ S).bP λts S1=>match ts with|[t,u]=>.nx ((τ.set i (some t)).set j (some u)) S1|_=>.aG):=rfl
theorem RU (cs:List Str)(f:Str)(g:Int->Int->Int)(fo fv:Em)(τ:En)(S:Cs):wK cs f g fo fv τ S=((fo τ S).bP λt S1=>match t with
 |.hd n=>(match iy S1 n with
  |some (c,fs)=>if c∈cs then (match aQ f fs with
   |some (.int i)=>(fv τ S1).bP λy S2=>(match y with
    |.int j=>(match iy S2 n with|some (c',JH)=>if c'=c/\JH.length<1000 then .nx τ (S2.set n (.d_ c (bX f (.int (g i j)) JH))) else .aG|none=>.aG)
    |_=>.aG)
   |_=>.aG) else .aG
  |none=>.aG)
 |_=>.aG):=rfl
theorem Mp (g g':Tr->Tr->Cs->R Tr)(fa fb fc:Em)(τ:En)(S:Cs):kg g g' fa fb fc τ S=((fa τ S).aE λt1 S1=>(fb τ S1).aE λt2 S2=>(g t1 t2 S2).aE λz S3=>match z with
 |.bl true=>(fc τ S3).aE λt3 S4=>g' t2 t3 S4
 |.bl false=>.ok (.bl false) S3
 |_=>.aG):=rfl
theorem RV (fo fe ff:Em)(τ:En)(S:Cs):FF fo fe ff τ S=((fo τ S).aE λt S1=>if ckD S1 t=true then (fe τ S1).aE λj S2=>(ff τ S2).aE λu S3=>(match Pc S3 t,jh j with|some m,some q=>.ok ((aQ q m).getD u) S3|_,_=>.aG) else .aG):=rfl
theorem Mq  (u0:En) (S:Cs):DG  u0 S=(.ok (.hd S.length) (S++[.jt []])):=rfl
theorem RW (ps:List (Em×Em))(τ:En)(S:Cs):LW ps τ S=((Im ps τ (S++[.jt []])).aE λl S1=>match sV S1 S.length with
 |some []=>if l.length<=15 then .ok (.hd S.length) (S1.set S.length (.jt (fD [] l))) else .aG
 |_=>.aG):=rfl
theorem ahf (g:Tr->Option Int->Option Int->Cs->R Tr)(fa:Em)(fl fh:En->Cs->R (Option Int))(τ:En)(S:Cs):Fo g fa fl fh τ S=((fa τ S).aE λt S1=>(fl τ S1).aE λlo S2=>(fh τ S2).aE λhi S3=>g t lo hi S3):=rfl
theorem RX (f:Em)(τ:En)(S:Cs):iU f τ S=((f τ S).aE λt S1=>match t with|.int i=>.ok (some i) S1|_=>.aG):=rfl
theorem Iw  (u0:En) (S:Cs):gx  u0 S=(.ok none S):=rfl
theorem RY (fo fi fv:Em)(τ:En)(S:Cs):Fv fo fi fv τ S=((fv τ S).bP λt S1=>(fo τ S1).bP λu S2=>(fi τ S2).bP λj S3=>(oO u j t S3).bP λ_ S4=>.nx τ S4):=rfl
theorem RZ (n:Nat)(r:Bs)(t:Tr)(τ:En)(S:Cs):kT n r t τ S=(match UB t with|some l=>if l.length=n then r l τ S else .aG|none=>.aG):=rfl
theorem R0 (b:Tr->En->Cs->R En)(r:Bs)(ts:List Tr)(τ:En)(S:Cs):fL b r ts τ S=(match ts with|t::l=>(b t τ S).aE λdU S1=>r l dU S1|[]=>.aG):=rfl
theorem aaE  (ts:List Tr) (τ:En) (S:Cs):qV  ts τ S=(match ts with|[]=>.ok τ S|_=>.aG):=rfl
theorem aaF (fo fi:Em)(t:Tr)(τ:En)(S:Cs):ZS fo fi t τ S=((fo τ S).aE λu S1=>(fi τ S1).aE λj S2=>match u,j with
 |.hd n,.int i=>(match cD S2 n with|some l=>(match Aa l.length i with|some m=>.ok τ (S2.set n (.bM (l.set m t)))|none=>.aG)|none=>.aG)
 |_,_=>.aG):=rfl
theorem R3 (fr:En->Cs->R (List Tr))(τ:En)(S:Cs):sZ fr τ S=((fr τ S).aE λts S1=>match ts with
 |[.int j]=>vN (-(2 ^ 62)<=j/\j<2 ^ 62) (.ok ⟨pS 0 j.toNat,λ_=>True⟩ S1) .aG
 |_=>.aG):=rfl
theorem ahg (st:Nat)(fr:En->Cs->R (List Tr))(τ:En)(S:Cs):mEn st fr τ S=((fr τ S).aE λts S1=>match ts with
 |[t]=>(iL t S1).aE λs S2=>.ok ⟨qF st s.items,s.gF⟩ S2
 |_=>.aG):=rfl
theorem al5 (g:Int->Int->Tr)(t1:Tr)(t2:Tr)(S:Cs):gI g t1 t2 S=(match t1,t2 with
 |.int i,.int j=>.ok (g i j) S
 |_,_=>.aG):=rfl
theorem ahh (c:Int->Int->Bool)(g:Int->Int->Tr)(t1:Tr)(t2:Tr)(S:Cs):Ab c g t1 t2 S=(match t1,t2 with
 |.int i,.int j=>if c i j=true then .ok (g i j) S else .aG
 |_,_=>.aG):=rfl
theorem aaG  (t1:Tr) (t2:Tr) (S:Cs):cL  t1 t2 S=(match t1,t2 with
 |.int i,.int j=>.ok (.int (i+j)) S
 |.str a,.str b=>if a.length+b.length<=sizeLine then .ok (.str (a++b)) S else .aG
 |.tp a,.tp b=>if a.isEmpty=false/\a.length+b.length<=sizeLine then .ok (.tp (a++b)) S else .aG
 |t1,t2=>match AQ S t1,AQ S t2 with
  |some a,some b=>if a.length+b.length<=sizeLine then .ok (.ls (a++b)) S else .aG
  |_,_=>.aG):=rfl
theorem aaH  (t1:Tr) (t2:Tr) (S:Cs):nI  t1 t2 S=(match t1,t2 with
 |.int i,.int j=>vN ((-(2 ^ 64)<i/\i<2 ^ 64)\/(-(2 ^ 64)<j/\j<2 ^ 64)) (.ok (.int (i * j)) S) .aG
 |.str a,.int n=>if 0<=n/\n<1000000/\a.length * n.toNat<=1000000 then .ok (.str (sE a n.toNat)) S else .aG
 |_,_=>.aG):=rfl
theorem aaI (neg:Bool)(a b:Str)(S:Cs):cX neg (.str a) (.str b) S = .ok (.bl (if neg=true then !decide (a=b) else decide (a=b))) S:=rfl
theorem aaJ (neg:Bool)(a b:Int)(S:Cs):cX neg (.int a) (.int b) S = .ok (.bl (if neg=true then !decide (a=b) else decide (a=b))) S:=rfl
theorem aaK (neg:Bool)(a:Int)(S:Cs):cX neg (.int a) .bu S = .ok (.bl (if neg=true then !false else false)) S:=rfl
theorem aaL (neg:Bool)(t1:Tr)(t2:Tr)(S:Cs):g9 neg t1 t2 S=(match t2 with
 |.bu=>.ok (.bl (if neg then !ZN t1 else ZN t1)) S
 |_=>.aG):=rfl
theorem ahi (neg:Bool)(t1:Tr)(t2:Tr)(S:Cs):yZ neg t1 t2 S=(match t2 with
 |.str z=>(match t1 with|.str y=>.ok (.bl (if neg then !(!(Builtin.Str.occurrences z y 0 z.length 1).isEmpty) else !(Builtin.Str.occurrences z y 0 z.length 1).isEmpty)) S|_=>.aG)
 |t2=>match AR S t2 with
  |some l=>if fK t1=true/\l.all fK=true then .ok (.bl (if neg then !JP t1 l else JP t1 l)) S else .aG
  |none=>.aG):=rfl
theorem aaM (neg:Bool)(t1:Tr)(t2:Tr)(S:Cs):AV neg t1 t2 S=(match Pc S t2,jh t1 with
 |some m,some j=>.ok (.bl (if neg then !(aQ j m).isSome else (aQ j m).isSome)) S
 |_,_=>.aG):=rfl
theorem Mr  (t1:Tr) (t2:Tr) (S:Cs):bG  t1 t2 S=(match t1,t2 with
 |.str z,.int i=>if z.length<=sizeLine then (match ig z.cps.toList i with|some c=>.ok (.str ⟨#[c]⟩) S|none=>.aG) else .aG
 |t1,.int i=>(match AR S t1 with
  |some l=>(match ig l i with|some t=>.ok t S|none=>.aG)
  |none=>.aG)
 |_,_=>.aG):=rfl
theorem aaN  (ts:List Tr) (S:Cs):gm  ts S=(match ts with
 |[.str z]=>if z.length<=sizeLine then .ok (.int z.length) S else .aG
 |[t]=>(match AR S t with|some l=>.ok (.int l.length) S|none=>match Pc S t with|some m=>.ok (.int m.length) S|none=>.aG)
 |_=>.aG):=rfl
theorem R4  (ts:List Tr) (S:Cs):qC  ts S=(match ts with
 |[t]=>(match AR S t with|some l=>.ok (.ls l) S|none=>.aG)
 |_=>.aG):=rfl
theorem aaO  (t:Tr) (ts:List Tr) (S:Cs):pQ  t ts S=(match t,ts with
 |.hd n,[u]=>(match cD S n with|some l=>if l.length<sizeLine then .ok .bu (S.set n (.bM (l++[u]))) else .aG|none=>.aG)
 |_,_=>.aG):=rfl
theorem aaP  (t:Tr) (ts:List Tr) (S:Cs):Q_  t ts S=(match t,ts with
 |.hd n,[u]=>(match cD S n,AQ S u with|some l,some m=>if l.length+m.length<=sizeLine then .ok .bu (S.set n (.bM (l++m))) else .aG|_,_=>.aG)
 |_,_=>.aG):=rfl
theorem R7  (u0:En) (S:Cs):jj  u0 S=(.ok true S):=rfl
theorem R8 (fi:En->Cs->R Ac)(fr:List Nat)(n:Nat)(b:Tr->En->Cs->R En)(c:En->Cs->R Bool)(f:Em)(τ:En)(S:Cs):gi fi fr n b c f τ S=((fi τ S).aE λs S1=>(cY s.gF b c f s.items (jy fr n τ) [] S1).aE λl S2=>.ok (.ls l) S2):=rfl
theorem al6  (t:Tr) (S:Cs):iL  t S=(match t with
 |.ls l=>.ok ⟨l,λ_=>True⟩ S
 |.kl l=>.ok ⟨l,λ_=>True⟩ S
 |.hd n=>(match cD S n with|some l=>.ok ⟨l,λS'=>cD S' n=some l⟩ S|none=>.aG)
 |_=>.aG):=rfl
theorem aaQ  (t:Tr) (S:Cs):Dy  t S=(match t with|.int i=>.ok (.int (-i)) S|_=>.aG):=rfl
section
variable {prog:Program}{w:World}{A:Around}{E:Value->Shared->Prop}{s:Shared}{Z TI TO i1 i2:Addr}{fp1 fp2:List Addr}{n1 n2 k:Nat}{Y1 Y2:Nat->Value->Prop}{S1 S2:Nat->Heap->Prop}{p q:Value}
end
section
variable {G:Gx}{k:Nat}{X:Cx}{a b c o e tg:Expr}{es:List Expr}{fa fb f:Em}{fr:En->Cs->R (List Tr)}{pos p:Pos}
end
theorem zo {α:Type}(x:α):(some (some x)).join=some x:=rfl
theorem gk {gF:Cs->Prop}{b:Tr->En->Cs->R En}{f:Sm}{l:List Tr}{τ:En}{S:Cs}{Z:RS}(e:fP gF b f l τ S=Z)(I:Nat->En->Cs->Prop)(hc:∀i τ S,I i τ S->gF S)(h0:I 0 τ S)(hs:∀i t τ S,l[i]? = some t->I i τ S->∃jT S2,((b t τ S).bP f = .nx jT S2\/(b t τ S).bP f = .ct jT S2)/\I (i+1) jT S2):∃oS S',I l.length oS S'/\Z = .nx oS S':=by
 have key:∀(l:List Tr) (n:Nat) (τ:En) (S:Cs),(∀i t τ S,l[i]? = some t->I (n+i) τ S->∃jT S2,((b t τ S).bP f = .nx jT S2\/(b t τ S).bP f = .ct jT S2)/\I (n+i+1) jT S2)->I n τ S->∃oS S',I (n+l.length) oS S'/\fP gF b f l τ S = .nx oS S':=by
  intro l;induction l with
  |nil=>intro n τ S h h0;exact⟨τ,S,h0,by unfold fP;rw[if_pos (hc n τ S h0)]⟩
  |cons t r ih =>
   intro n τ S h h0;obtain⟨jT,S2,e,h2⟩:=h 0 t τ S rfl h0;obtain⟨τ3,S3,h3,e3⟩:=ih (n+1) jT S2 (λi u τ S hu hI=>by
    have:=h (i+1) u τ S (by simpa using hu) (by rw[show n+(i+1)=n+1+i by omega];exact hI)
    rw[show n+(i+1)+1=n+1+i+1 by omega] at this
    exact this) h2
   refine⟨τ3,S3,by rw[zaD,show n+(r.length+1)=n+1+r.length by omega];exact h3,?_⟩
   conv=>lhs;unfold fP
   rw[if_pos (hc n τ S h0)];cases hb:b t τ S with
   |ok dU S1 =>
    rw[hb,R.eN] at e;rw[R.eN];rcases e with e|e
    ·rw[e,L5,e3]
    ·rw[e,agH,e3]
   |ex n S1=>rw[hb,R.Fi] at e;rcases e with e|e<;>cases e
   |aG=>rw[hb,R.AL] at e;rcases e with e|e<;>cases e
 obtain⟨oS,S',h,e2⟩:=key l 0 τ S (λi t τ S ht hI=>by rw[zbT] at hI ⊢;exact hs i t τ S ht hI) h0
 rw[zbT] at h;exact⟨oS,S',h,by rw[<-e,e2]⟩
theorem wW {gF:Cs->Prop}{b:Tr->En->Cs->R En}{f:Em}(I:Nat->En->List Tr->Cs->Prop)(hc:∀i τ cg S,I i τ cg S->gF S):∀(l:List Tr) (n:Nat) (τ:En) (cg:List Tr) (S:Cs),
  (∀i t τ cg S,l[i]? = some t->I (n+i) τ cg S->∃dU u S3,b t τ S = .ok dU S/\f dU S = .ok u S3/\I (n+i+1) dU (cg++[u]) S3)->cg.length+l.length<=1000000->I n τ cg S->∃oS DN S',I (n+l.length) oS DN S'/\cY gF b jj f l τ cg S = .ok DN S'
 |[],n,τ,cg,S,h,hl,h0=>⟨τ,cg,S,h0,tE (hc n τ cg S h0)⟩
 |t::r,n,τ,cg,S,h,hl,h0=>by
  obtain⟨dU,u,S3,e1,e2,h2⟩:=h 0 t τ cg S rfl h0;have JJ:cg.length+1+r.length<=1000000:=by simp at hl;omega
  obtain⟨τ3,al7,S4,h3,e3⟩:=wW I hc r (n+1) dU (cg++[u]) S3 (λi u τ cg S hu hI=>by
   have:=h (i+1) u τ cg S (by simpa using hu) (by rw[show n+(i+1)=n+1+i by omega];exact hI)
   rw[show n+(i+1)+1=n+1+i+1 by omega] at this
   exact this) (by simp;omega) h2
  refine⟨τ3,al7,S4,by rw[zaD,show n+(r.length+1)=n+1+r.length by omega];exact h3,?_⟩
  rw[qG (hc n τ cg S h0),e1,gQ,R.eL];show (jd (R.ok true S)).aE _=_
  rw[gQ,R.eL,if_pos rfl,e2,gQ,R.eL,if_pos (zal (by omega:cg.length<1000000) (by decide)),e3]
theorem wX {gF:Cs->Prop}{b:Tr->En->Cs->R En}{f:Em}{l:List Tr}{τ:En}{S:Cs}{Z:R (List Tr)}(e:cY gF b jj f l τ [] S=Z)(I:Nat->En->List Tr->Cs->Prop)(hc:∀i τ cg S,I i τ cg S->gF S)(h0:I 0 τ [] S)(hl:l.length<=1000000)
  (hs:∀i t τ cg S,l[i]? = some t->I i τ cg S->∃dU u S3,b t τ S = .ok dU S/\f dU S = .ok u S3/\I (i+1) dU (cg++[u]) S3):∃oS DN S',I l.length oS DN S'/\Z = .ok DN S':=by
 obtain⟨oS,DN,S',h,e2⟩:=wW I hc l 0 τ [] S (λi t τ cg S ht hI=>by rw[zbT] at hI ⊢;exact hs i t τ cg S ht hI) (by simpa using hl) h0
 rw[zbT] at h;exact⟨oS,DN,S',h,by rw[<-e,e2]⟩
noncomputable def al8 (S S':Cs):Prop:=∃J,S'=S++J
end L2
namespace L2
open PySem PySem.Spec PyProof.Rows
section
variable {K:W.Frag}{cl:Str->Addr}{k j0 n:Nat}{X:Cx}{g B:Addr}{fd:FuncData}{ps:List Str}{q:Fn}{x y nn fn cB:Str}{xp p cp ap np yp np2 bp hp pos:Pos}{e:Expr}{es:List Expr}{fr:En->Cs->R (List Tr)}{i j l:Nat}{cs:List Str}
 {Uu q':Str} {N':Addr} {Uv:List Value} {qz:Bool} {Uw:List Str} {AG:List Value} {Ux:Bool} {AH:Option Bool} {CB:Option Addr} {j1 j2 j3 j4 j5:Option Value} {lU:String}
end
noncomputable def ahk (K:W.Frag)(neg:Bool):R2:=λx y H Q=>∃a b xs ys,x = .ref a/\y = .ref b/\iO K H a xs/\iO K H b ys/\xs.length≠ys.length/\Q (.bl neg) H
theorem Ms (hu:X.A.units<cLine):jV X (compareOp .Eq) (ahk X.K false):=by
 intro ah s σ H x y v u Q I rx ry h;obtain⟨a,b,xs,ys,rfl,rfl,hp,hq,hn,k⟩:=h;cases rx;cases ry;obtain⟨bg,r1,p1,_⟩:=I.list hp;obtain⟨g8,r2,p2,_⟩:=I.list hq;have l1:=r1.length;have l2:=r2.length;exact SeqAt.eq_list_lengthsAt p1.isList p2.isList (by simp;omega) hu ⟨.bl false,H,I,rfl,k⟩
theorem Mu (hu:X.A.units<cLine):jV X (compareOp .NotEq) (ahk X.K true):=by
 intro ah s σ H x y v u Q I rx ry h;obtain⟨a,b,xs,ys,rfl,rfl,hp,hq,hn,k⟩:=h;cases rx;cases ry;obtain⟨bg,r1,p1,_⟩:=I.list hp;obtain⟨g8,r2,p2,_⟩:=I.list hq;have l1:=r1.length;have l2:=r2.length;have h:=SeqAt.RcNeAt.lists_lengths p1.isList p2.isList (by simp;omega) (show X.A.units<cLine from hu)
 exact h X.prog X.w _ _ ⟨.bl true,H,I,rfl,k⟩
noncomputable def A3 (neg:Bool):Tr->Tr->Cs->R Tr:=λt1 t2 S=>match Fj S t1,Fj S t2 with
 |some l,some m=>if l.length=m.length then cX neg t1 t2 S else .ok (.bl neg) S
 |_,_=>.aG
theorem aaR {neg:Bool}:ni G k (compareOp (if neg then .NotEq else .Eq)) (A3 neg):=.mk<|λX o ah s σ H x y v u Q I rx ry dB=>by
 obtain⟨w,S,t1,t2,hr,r1,r2,q⟩:=dB;unfold A3 at q;split at q
 ·rename_i l m e1 e2
  split at q
  ·exact (LI (G:=G) (k:=k) (neg:=neg)).jW X o ah s σ H x y v u Q I rx ry ⟨w,S,t1,t2,hr,r1,r2,q⟩
  ·rename_i hn
   obtain⟨a,xs,ea,sx,rx'⟩:=lY hr r1 e1;obtain⟨b,ys,eb,sy,ry'⟩:=lY hr r2 e2;rw[<-o.K] at sx sy;have q:=q w H _ (.refl w) hr gW
   have hl:xs.length≠ys.length:=by rw[rx'.len,ry'.len];exact hn
   cases neg with
   |true=>exact Mu (zcA (zcl _ _) o.hu) ah s σ H x y v u Q I rx ry ⟨a,b,xs,ys,ea,eb,sx,sy,hl,q⟩
   |false=>exact Ms (zcA (zcl _ _) o.hu) ah s σ H x y v u Q I rx ry ⟨a,b,xs,ys,ea,eb,sx,sy,hl,q⟩
 ·exact q.elim
theorem ahl:ni G k (compareOp .NotEq) (A3 true):=aaR (neg:=true)
section
variable {G:Gx}{k:Nat}{X:Cx}{a b c o e tg:Expr}{es:List Expr}{fa fb f:Em}{fr:En->Cs->R (List Tr)}{pos p:Pos}
end
end L2
namespace L2
open PySem PySem.Spec PyProof.Rows
section
variable {prog:Program}{w:World}{A:Around}{R:Result->Shared->Prop}{I:Addr}{fp wr:List Addr}{G:Array GenState->Array GenState->Prop}{n:Nat}{P:Nat->Value->Prop}{St:Nat->Shared->Prop}
end
section
variable {prog:Program}{w:World}{A:Around}{E:Value->Shared->Prop}{s:Shared}
end
end L2
namespace L2
open PySem PySem.Spec PyProof.Rows
end L2
namespace L2
open PySem PySem.Spec PyProof.Rows
section
variable {X:Cx}{k:Nat}{g B:Addr}{fd:FuncData}{ps:List Str}{sp:Sp}{e:Expr}{es:List Expr}{t:TA}{n fn cB:Str}{l:Nat}{p cp np ep hp pos:Pos}{kW:List Stmt}{qX:Stmt}{ts:TS}
 {Uu q':Str} {N':Addr} {Uv JL:List Value} {qz:Bool} {Uw:List Str} {AG:List Value} {Ux:Bool} {AH:Option Bool} {CB:Option Addr} {j0 j1 j2 j3 j5:Option Value} {lU:String}
end
section
variable {K:W.Frag}{cl:Str->Addr}{k j n:Nat}{X:Cx}{g B:Addr}{fd:FuncData}{ps:List Str}{q:Fn}{cB nn fn:Str}{p cp np ep hp pos:Pos}{e:Expr}{es:List Expr}{fr:En->Cs->R (List Tr)}{kW:List Stmt}{qX:Stmt}{sh:Sm}{l:Nat}{cs:List Str}
end
noncomputable def keysOf:List Tr->Option (List dJ)
 |[]=>some []
 |t::r=>(match jh t,keysOf r with|some k,some l=>some (k::l)|_,_=>none)
noncomputable def Mv:Tr->Option (List dJ)|.tp l=>keysOf l|_=>none
noncomputable def Mw (S:Cs)(t1 t2:Tr):Option (Option Tr):=match t1 with
 |.hd n=>(match S[n]? with
  |some (.jt l)=>(jh t2).map λq=>aQ q l
  |some (.vM l)=>(jh t2).map λq=>aQ q l
  |some (.Pb l)=>(Mv t2).map λq=>aQ q l
  |some (.Dt l)=>(Mv t2).map λq=>aQ q l
  |_=>none)
 |_=>none
theorem wY:∀{l:List Tr} {q:List dJ} {xs:List V},keysOf l=some q->bK w l xs->xs=q.map kV
 |[],q,xs,e,r=>by cases e;rw[r.cy];rfl
 |t::l,q,xs,e,r=>by
  obtain⟨x,r',rfl,h1,h2⟩:=r.bD;unfold keysOf at e;split at e
  ·rename_i k1 l1 e1 e2
   cases e;rw[gX e1 h1,wY e2 h2];rfl
  ·cases e
theorem A4 (e:Mv t=some q)(r:RT w t v):∃p,v = .ref p/\w.F p=some (.gS (q.map kV)):=by
 cases t with
 |tp l =>
  unfold RT at r;obtain⟨p,xs,rfl,h,r⟩:=r;rw[wY e r] at h;exact⟨p,rfl,h⟩
 |_=>cases e
noncomputable def UT (w:Wd)(ot:Option Tr)(ov:Option V):Prop:=match ot with|some t=>∃v,ov=some v/\RT w t v|none=>ov=none
theorem mQ {κ:Type}[DecidableEq κ]{l:List (κ × Tr)}{m:List (κ × V)}(r:RK w l m)(j:κ):UT w (aQ j l) (lz m j):=by
 obtain⟨h1,h2⟩:=oM (k:=j) r
 cases e:aQ j l with
 |none=>exact h2 e
 |some t=>exact h1 t e
theorem R9 {S:Cs}{H:Hp}(hr:HR G w S H)(r1:RT w t1 x)(r2:RT w t2 y)(e:Mw S t1 t2=some ot):∃p ov,x = .ref p/\nE H p y ov/\UT w ot ov:=by
 unfold Mw at e;split at e
 ·rename_i n
  have hx:=r1.c_.2;split at e
  ·rename_i l en
   rw[zbI] at e;obtain⟨q,ek,rfl⟩:=e;obtain⟨aP,h1,h2⟩:=hr.cell _ _ en;exact⟨_,_,hx,.inl ⟨aP,q,.inl h1,gX ek r2,rfl⟩,mQ h2 q⟩
  ·rename_i l en
   rw[zbI] at e;obtain⟨q,ek,rfl⟩:=e;obtain⟨ob,aP,h1,h2⟩:=hr.cell _ _ en;exact⟨_,_,hx,.inl ⟨aP,q,.inr ⟨ob,hr.sub _ _ h1⟩,gX ek r2,rfl⟩,mQ h2 q⟩
  ·rename_i l en
   rw[zbI] at e;obtain⟨q,ek,rfl⟩:=e;obtain⟨aP,h1,h2⟩:=hr.cell _ _ en;obtain⟨p,ey,hp⟩:=A4 ek r2;exact⟨_,_,hx,.inr ⟨aP,q,p,.inl h1,ey,hr.sub _ _ hp,rfl⟩,mQ h2 q⟩
  ·rename_i l en
   rw[zbI] at e;obtain⟨q,ek,rfl⟩:=e;obtain⟨ob,aP,h1,h2⟩:=hr.cell _ _ en;obtain⟨p,ey,hp⟩:=A4 ek r2;exact⟨_,_,hx,.inr ⟨aP,q,p,.inr ⟨ob,hr.sub _ _ h1⟩,ey,hr.sub _ _ hp,rfl⟩,mQ h2 q⟩
  ·cases e
 ·cases e
noncomputable def Mx:Tr->Tr->Cs->R Tr:=λt1 t2 S=>match Mw S t1 t2 with|some (some t)=>.ok t S|_=>.aG
theorem aaS (ha:TV G k X a fa)(hb:TV G k X b fb)(hs:autoParam (YH b) zp_8):TV G k X (.Subscript a b pos) (ai Mx fa fb):=.mk<|λo=>(Qa o.hu1 (ha o) (hb o) hs).wk λσ H Q h=>by
 obtain⟨w,S,τ,hr,sl,q⟩:=pK h;refine⟨w,S,τ,hr,sl,q.mono λx H1 ⟨w1,S1,dU,bO,HU,q1⟩=>⟨w1,S1,dU,bO,HU,q1.mono λy H2 iP=>?_⟩⟩
 obtain⟨w2,S2,t1,t2,dR,r1,r2,q2⟩:=iP;unfold Mx at q2;split at q2
 ·rename_i t et
  obtain⟨p,ov,ex,g,v,rfl,rv⟩:=R9 dR r1 r2 et;exact⟨p,v,ex,g,q2 w2 H2 v (.refl _) dR rv⟩
 ·exact q2.elim
theorem HR.Mz (h:HR G w S H){c c':Ce}(e:S[i]? = some c)(hc:c.fz=false)(Po:c'.fz=true)(ok:∀w':Wd,w.le w'->w'.F (w.ρ i)=some o'->bH G w' (bF H (w.ρ i) o') (w.ρ i) c'):
  HR G {w with F:=bF w.F (w.ρ i) o' } (S.set i c') (bF H (w.ρ i) o')/\w.le {w with F:=bF w.F (w.ρ i) o' }:=by
 have hi:=(zab.mp e).1
 have li:eE S i:=⟨c,e,hc⟩
 have hF:w.F (w.ρ i)=none:=by rw[h.F];unfold Fz;rw[if_pos (.inl ⟨i,li,rfl⟩)]
 have le:w.le {w with F:=bF w.F (w.ρ i) o' }:=⟨rfl,zah _,λ_ _=>rfl,λb u eb=>j9 hF eb,rfl⟩
 have lv:∀j,eE (S.set i c') j->eE S j/\j≠i:=λj jK=>by
  obtain⟨d,ed,hd⟩:=jK;by_cases hj:i=j
  ·subst hj
   rw[zaB hi] at ed;cases ed;rw[Po] at hd;cases hd
  ·rw[zaA hj] at ed
   exact⟨⟨d,ed,hd⟩,λz=>hj z.symm⟩
 have lv2:∀j,eE S j->j≠i->eE (S.set i c') j:=λj ⟨d,ed,hd⟩ hj=>⟨d,by rw[zaA (λz=>hj z.symm)];exact ed,hd⟩
 refine⟨⟨h.K,by simp[h.n],?_,λj d ej=>?_,λa b la lb=>h.inj a b (lv a la).1 (lv b lb).1,yR h.hid (h.jJ i li),λj lj=>h.jJ j (lv j lj).1,h.hl⟩,le⟩
 ·show bF w.F (w.ρ i) o'=Fz w.ρ w.hid (S.set i c') (bF H (w.ρ i) o')
  funext b
  unfold Fz;by_cases hb:b=w.ρ i
  ·subst hb
   rw[az,if_neg,az];rintro (⟨j,lj,z⟩|z)
   ·exact (lv j lj).2 (h.inj j i (lv j lj).1 li z)
   ·exact z (h.jJ i li)
  ·rw[au hb,au hb,h.F]
   unfold Fz;have UA:(∃j,eE (S.set i c') j/\w.ρ j=b)↔∃j,eE S j/\w.ρ j=b:=⟨λoK=>by obtain⟨j,lj,z⟩:=oK;exact⟨j,(lv j lj).1,z⟩,λki=>by obtain⟨j,lj,z⟩:=ki;exact⟨j,lv2 j lj (λq=>hb (by rw[<-z,q])),z⟩⟩
   by_cases hx:(∃j,eE S j/\w.ρ j=b)\/w.hid b≠none
   ·rw[if_pos hx,if_pos (hx.imp UA.mpr λz=>z)]
   ·rw[if_neg hx,if_neg (λz=>hx (z.imp UA.mp λz=>z))]
 ·by_cases hj:i=j
  ·subst hj
   rw[zaB hi] at ej;cases ej;exact ok _ le az
  ·rw[zaA hj] at ej
   cases hd:d.fz with
   |true=>exact bH.Lq le hd (h.cell j d ej)
   |false =>
    refine (h.cell j d ej).mono le λu eu=>?_
    rw[au λz=>hj (h.inj i j li ⟨d,ej,hd⟩ z.symm)]
    exact eu
noncomputable def MA:dJ->Tr|.inl i=>.int i|.inr x=>.str x
noncomputable def iD:Tr->Cs->R Ac:=λt S=>match t with
 |.hd n=>(match S[n]? with
  |some (.jt l)=>.ok ⟨l.map λp=>MA p.1,λ_=>True⟩ (S.set n (.vM l))
  |some (.vM l)=>.ok ⟨l.map λp=>MA p.1,λ_=>True⟩ S
  |some (.Pb l)=>.ok ⟨l.map λp=>.tp (p.1.map MA),λ_=>True⟩ (S.set n (.Dt l))
  |some (.Dt l)=>.ok ⟨l.map λp=>.tp (p.1.map MA),λ_=>True⟩ S
  |_=>.aG)
 |_=>.aG
theorem aaT (q:dJ):RT w (MA q) (kV q):=by
 cases q with
 |inl i=>exact dQ
 |inr x=>exact j_
theorem zp:∀q:List dJ,bK w (q.map MA) (q.map kV)
 |[]=>.nil
 |k::r=>.cons (aaT k) (zp r)
theorem zq {a:Addr}(hF:w.F a=some (.qY ob u))(R:bK w l ks):Ri G w ⟨l,λ_=>True⟩ (Itd a ob u ks):=λw1 S1 H1 i hK hn iw hF1 bO _=>by
 have ha:=bO.sub _ _ (hF1 _ _ hF)
 have R1:=R.wL hK hn iw hF1;refine⟨λt et=>?_,λhi=>⟨ha,by rw[R.len,hi];exact zah _⟩⟩
 obtain⟨v,ev,rv⟩:=R1.get et;refine⟨⟨ha,(zab.mp ev).1⟩,λx H2 ⟨e2,ex⟩=>?_⟩
 subst e2;rw[ev] at ex;cases ex;exact⟨w1,.refl _,bO,rv⟩
theorem UU (r:RK w l aP):bK w (l.map λp=>MA p.1) (aP.map λp=>kV p.1):=by
 have e1:(l.map λp=>MA p.1)=(l.map Prod.fst).map MA:=by rw[zbt];rfl
 have e2:(aP.map λp=>kV p.1)=(aP.map Prod.fst).map kV:=by rw[zbt];rfl
 rw[e1,e2,r.1];exact zp _
theorem MB {H:Hp}{S:Cs}(ahm:∀b xs,H b=some (.gS xs)->w.F b=some (.gS xs)):∀{aP:List (List dJ×V)} {ks:List V},Paired (λ(p:List dJ×V) (x:V)=>∃b,x = .ref b/\H b=some (.gS (p.1.map kV))) aP ks->bK w ((aP.map Prod.fst).map λq=>.tp (q.map MA)) ks
 |_,_,.nil=>.nil
 |_,_,.cons ⟨b,ex,hb⟩ t=>.cons (by unfold RT;exact⟨b,_,ex,ahm _ _ hb,zp _⟩) (MB (S:=S) ahm t)
theorem HR.ahn (h:HR G w S H){b:Addr}(hb:H b=some (.gS xs)):w.F b=some (.gS xs):=by
 rw[h.F];unfold Fz;rw[if_neg,hb];rintro (⟨i,⟨c,e,n⟩,z⟩|z)
 ·have hc:=h.cell i c e
  rw[z] at hc;cases c with
  |bM l=>obtain⟨_,q,_⟩:=hc;rw[hb] at q;cases q
  |jt l=>obtain⟨_,q,_⟩:=hc;rw[hb] at q;cases q
  |Pb l=>obtain⟨_,q,_⟩:=hc;rw[hb] at q;cases q
  |d_ c l=>obtain⟨_,_,q,_⟩:=hc;rw[hb] at q;cases q
  |sL c l=>obtain⟨_,_,_,q,_⟩:=hc;rw[hb] at q;cases q
  |sJ=>cases n
  |vM l=>cases n
  |Dt l=>cases n
 ·cases e:w.hid b with
  |none=>exact z e
  |some u =>
   have:=h.hid b u e
   rw[hb] at this;cases this;exact h.hl b xs e
theorem R_ (ha:TV G k X a fa):LU G k X tg a (sY iD fa):=.mk<|λox=>(QO (ha ox)).wk λσ H Q h=>by
 obtain⟨w,S,τ,hr,sl,q⟩:=h;refine⟨w,S,τ,hr,sl,(bz.aE q).mono λx H1 bS=>?_⟩
 obtain⟨w1,S1,t1,dh,bO,r1,_,q1⟩:=bS;unfold iD at q1;split at q1
 ·rename_i n _
  have hx:=r1.c_.2;split at q1
  ·rename_i l en
   obtain⟨aP,h1,h2⟩:=bO.cell _ _ en;refine⟨_,.dK aP,hx,trivial,.inl ⟨h1,λob ks hk=>?_⟩⟩
   obtain⟨dR,fC⟩:=bO.Mz en rfl (c':=.vM l) rfl (o':=.qY ob (.dK aP)) (λw' le' hF=>⟨ob,aP,hF,h2.mono le'⟩)
   cases (show ks=_ from hk)
   exact q1 _ _ _ fC dR (zq az (UU (h2.mono fC)))
  ·rename_i l en
   obtain⟨ob,aP,h1,h2⟩:=bO.cell _ _ en;refine⟨_,.dK aP,hx,trivial,.inr ⟨ob,bO.sub _ _ h1,λks hk=>?_⟩⟩
   cases (show ks=_ from hk)
   exact q1 _ _ _ (.refl _) bO (zq h1 (UU h2))
  ·rename_i l en
   obtain⟨aP,h1,h2⟩:=bO.cell _ _ en;refine⟨_,.dT aP,hx,trivial,.inl ⟨h1,λob ks hk=>?_⟩⟩
   obtain⟨dR,fC⟩:=bO.Mz en rfl (c':=.Dt l) rfl (o':=.qY ob (.dT aP)) (λw' le' hF=>⟨ob,aP,hF,h2.mono le'⟩)
   have R:=MB (S:=S1) (w:={w1 with F:=bF w1.F (w1.ρ n) (.qY ob (.dT aP))}) (λb xs hb=>fC.F _ _ (bO.ahn hb)) hk
   rw[h2.1,zbt] at R;exact q1 _ _ _ fC dR (zq az R)
  ·rename_i l en
   obtain⟨ob,aP,h1,h2⟩:=bO.cell _ _ en;refine⟨_,.dT aP,hx,trivial,.inr ⟨ob,bO.sub _ _ h1,λks hk=>?_⟩⟩
   have R:=MB (S:=S1) (λb xs hb=>bO.ahn hb) hk
   rw[h2.1,zbt] at R;exact q1 _ _ _ (.refl _) bO (zq h1 R)
  ·exact q1.elim
 ·exact q1.elim
noncomputable def oX (H:Hp):List V->List (dJ×V)->Prop
 |[],[]=>True
 |x::xs,(q,v)::r=>(∃a,x = .ref a/\H a=some (.gS [kV q,v]))/\oX H xs r
 |_,_=>False
theorem oX.len:∀{xs:List V} {r:List (dJ×V)},oX H xs r->xs.length=r.length
 |[],[],_=>rfl
 |x::xs,(q,v)::r,h=>by simp[oX.len h.2]
 |[],_::_,h=>h.elim
 |_::_,[],h=>h.elim
theorem oX.get:∀{xs:List V} {r:List (dJ×V)} {i:Nat} {x:V},oX H xs r->xs[i]? = some x->∃q v a,r[i]? = some (q,v)/\x = .ref a/\H a=some (.gS [kV q,v])
 |[],[],i,x,_,e=>by simp at e
 |y::xs,(q,v)::r,0,x,h,e=>by
  simp at e
  subst e;obtain⟨a,e1,e2⟩:=h.1;exact⟨q,v,a,rfl,e1,e2⟩
 |y::xs,(q,v)::r,i+1,x,h,e=>by simpa using oX.get (i:=i) h.2 (by simpa using e)
 |[],_::_,_,_,h,_=>h.elim
 |_::_,[],_,_,h,_=>h.elim
theorem FT {r:List (dJ×V)}(h:∀i q v,r[i]? = some (q,v)->(kv i).1=q/\bI v (kv i).2):∀n,n<=r.length->KV (gc [] (r.take n)) (sI kv n)
 |0,_=>.nil
 |n+1,hn=>by
  have ih:=FT h n (by omega)
  have e:r.take (n+1)=r.take n++[r[n]'(by omega)]:=by rw[List.take_add_one,zae (by omega)];rfl
  obtain⟨e1,e2⟩:=h n (r[n]'(by omega)).1 (r[n]'(by omega)).2 (zae (by omega))
  rw[e];unfold gc sI;rw[List.foldl_append];show KV (jX (gc [] (r.take n)) (r[n]'(by omega)).1 (r[n]'(by omega)).2) (stored (sI kv n) (kv n).1 (kv n).2)
  rw[e1];exact ih.C8 _ e2
theorem DO (hc:X.fQ=true):kQ X (.type "dict") (λxs H Q=>∃(p:Addr) (ys:List V) (r:List (dJ×V)),xs=[.ref p]/\H p=some (.bM ys)/\oX H ys r/\r.length<=1000/\∀l,H l=none->Q (.ref l) (bF H l (.dK (gc [] r)))):=by
 intro ah s σ H xs us Q I rr h;obtain⟨p,ys,r,rfl,hp,hr,hl,q⟩:=h;obtain⟨u,rfl,ru⟩:=qo rr;cases ru;obtain⟨bg,n,rv,e,_⟩:=I.bM hp;have dm:bg.length=r.length:=by rw[<-rv.length,hr.len]
 -- CO aet,pq and pG of CO aoz
 have qO:∀i,i<r.length->∃(a:Addr) (kk vv:Value),bg[i]? = some (.ref a)/\pI s.heap a kk vv/\lH (r.getD i (.inl 0,.bu)).1 kk=true/\bI (r.getD i (.inl 0,.bu)).2 vv:=λi hi=>by
  have hy:i<ys.length:=by rw[hr.len];exact hi
  obtain⟨kq,v,a,e1,e2,e3⟩:=hr.get (zae hy)
  obtain⟨u,hu,ru⟩:=rv.get (zae hy)
  rw[e2] at ru;cases (show u=Value.ref a from ru)
  obtain⟨_,ws,C9,ob,ho,oc,m,od⟩:=(show cJ X.prog X.w H s.heap a (.gS [kV kq,v]) from I.cA a _ e3)
  obtain⟨w1,w2,rfl,g1,g2⟩:=C9.two;have eg:r.getD i (.inl 0,.bu)=(kq,v):=by rw[zdm,e1];rfl
  rw[eg];exact⟨a,w1,w2,hu,⟨ob,m,ho,oc,od⟩,qu (P:=X.prog) (w:=X.w) g1,g2⟩
 let ad:Nat->Addr:=λi=>if h:i<r.length then (qO i h).choose else 0
 let kk:Nat->Value:=λi=>if h:i<r.length then (qO i h).choose_spec.choose else .none
 let kv:Nat->dJ×Value:=λi=>if h:i<r.length then ((r.getD i (.inl 0,.bu)).1,(qO i h).choose_spec.choose_spec.choose) else (.inl 0,.none)
 have spec:∀i,i<r.length->bg[i]? = some (.ref (ad i))/\pI s.heap (ad i) (kk i) (kv i).2/\lH (kv i).1 (kk i)=true/\(kv i).1=(r.getD i (.inl 0,.bu)).1/\bI (r.getD i (.inl 0,.bu)).2 (kv i).2:=λi hi=>by
  have:=(qO i hi).choose_spec.choose_spec.choose_spec
  simp only[ad,kk,kv,dif_pos hi];exact⟨this.1,this.2.1,this.2.2.1,trivial,this.2.2.2⟩
 have hsz:bg.toArray.size=r.length:=by simp[dm]
 refine qT (ad:=ad) (kk:=kk) (kv:=kv) (I.ok.hd hc) e (λi v hv=>?_) (λi hi=>(spec i (by omega)).2.2.1) (by omega) (λm hm=>(spec m (by omega)).2.1) λh' tk hS hk=>?_
 ·have hv:bg[i]? = some v:=by simpa using hv
  have hi:i<r.length:=by rw[<-dm];exact (zab.mp hv).1
  rw[(spec i hi).1] at hv;exact (zav hv).symm
 ·rw[hsz] at hS
  have hkv:KV (gc [] r) (sI kv r.length):=by
   have:=FT (kv:=kv) (r:=r) (λi kq v e1=>by
    have hi:i<r.length:=(zab.mp e1).1
    have eg:r.getD i (.inl 0,.bu)=(kq,v):=by rw[zdm,e1];rfl
    obtain⟨_,_,_,s4,s5⟩:=spec i hi;rw[eg] at s4 s5;exact⟨s4,s5⟩) r.length (zah _)
   rwa[zaH] at this
  refine⟨.ref s.heap.objs.size,_,I.jB (t':=tk) hk (zah _) (show cJ X.prog X.w _ _ _ (.dK (gc [] r)) from ⟨?_,beq_eq_false_iff_ne.mpr (zbd (zar I.big)),_,hkv,hS⟩),rfl,q _ (I.cA.fresh (zah _))⟩
  have h1:=yQ kv r.length;rw[hkv.length];exact zai h1 (zai hl (by decide))
noncomputable def pX:List Tr->Option (List (dJ×Tr))
 |[]=>some []
 |.tp [a,b]::r=>(match jh a,pX r with|some q,some l=>some ((q,b)::l)|_,_=>none)
 |_=>none
noncomputable def zv:List Tr->Cs->R Tr:=λts S=>match ts with
 |[t]=>(match AQ S t with|some l=>(match pX l with|some ps=>if ps.length<=1000 then .ok (.hd S.length) (S++[.jt (fD [] ps)]) else .aG|none=>.aG)|none=>.aG)
 |_=>.aG
theorem wZ (hF:∀b o,w.F b=some o->H b=some o):∀{l:List Tr} {ps:List (dJ×Tr)} {xs:List V},pX l=some ps->bK w l xs->∃r,oX H xs r/\RK w ps r
 |[],ps,xs,e,rt=>by cases e;rw[rt.cy];exact⟨[],trivial,.nil⟩
 |.tp [a,b]::l,ps,xs,e,rt=>by
  obtain⟨x,xs',rfl,h1,h2⟩:=rt.bD;unfold pX at e;split at e
  ·rename_i q l' e1 e2
   cases e;obtain⟨r,g1,g2⟩:=wZ hF e2 h2;unfold RT at h1;obtain⟨ad,ys,rfl,hy,ry⟩:=h1;obtain⟨y1,y2,rfl,ra,rb⟩:=Fq ry;rw[gX e1 ra] at hy;exact⟨(q,y2)::r,⟨⟨ad,rfl,hF _ _ hy⟩,g1⟩,.cons rb g2⟩
  ·cases e
 |.bu::_,_,_,e,_|.bl _::_,_,_,e,_|.int _::_,_,_,e,_|.str _::_,_,_,e,_|.ls _::_,_,_,e,_|.kt _::_,_,_,e,_|.kl _::_,_,_,e,_|.hd _::_,_,_,e,_=>by cases e
 |.tp []::_,_,_,e,_|.tp [_]::_,_,_,e,_|.tp (_::_::_::_)::_,_,_,e,_=>by cases e
theorem Sb (hk:autoParam (0<k) zp_2):nq G k (.type "dict") zv:=.mk<|λX o ah s σ H xs us Q I rv bS=>by
 obtain⟨w,S,ts,hr,r,q⟩:=bS;unfold zv at q;split at q
 ·obtain⟨x,rfl,r1⟩:=fE r
  split at q
  ·rename_i l el
   split at q
   ·rename_i ps ep
    split at q
    ·rename_i hl
     obtain⟨a,ys,rfl,ha,ry⟩:=lW hr r1 el;obtain⟨rp,h1,h2⟩:=wZ hr.sub ep ry;refine DO (o.fQ hk) ah s σ H _ us Q I rv ⟨a,ys,rp,rfl,ha,h1,by rw[h2.len];exact hl,λp hp=>?_⟩
     obtain⟨dR,le⟩:=hr.Ib (c:=.jt (fD [] ps)) hp (o:=.dK (gc [] rp)) rfl ⟨_,az,(RK.Au h2 .nil).mono (w.sN p)⟩
     refine q _ _ _ le dR ?_
     unfold RT;exact⟨by show S.length<w.n+1;rw[hr.n];exact zbj _,by show V.ref p=V.ref (if S.length=w.n then p else w.ρ S.length);rw[if_pos hr.n.symm]⟩
    ·exact q.elim
   ·exact q.elim
  ·exact q.elim
 ·exact q.elim
section
variable {a0 a1 a2 a3 a4 a5 a6 a7 a8 a9 qH w9 FU a13 a14 a15 a16 a17 a18 a19:Option Tr}{x0 x1 x2 x3 x4 x5 x6 x7 x8 x9 h_ gJ x12 t y:Tr}{n0 n1 n2 n3 n4 n5 n6 n7 n8 n9 n10 n11 n12 n13 n14 n15 n16 c:Str}{r:En}{S:Cs}{sb:Sm}{q:Fn}{f:Tr->Cs->R β}{f':Tr->Cs->RS}{l:List Tr}{b:Bool}{z:Int}{g:Tr->Tr->Cs->R Tr}{fb:Em}{fr:En->Cs->R (List Tr)}{sc:Sm}{k n:Nat}{x:Str}{fs:List (Str×Tr)}
theorem sl {α:Type}{l:List α}(n:Nat)(h:l.length=n)(hn:autoParam (n<=20) zp_1):l.length<=sizeLine:=by rw[h];exact zai hn (by decide)
theorem UW {i:Int}(h:ig l i=some y):bG (.tp l) (.int i) S = .ok y S:=by rw[Mr];simp only[AR,h]
theorem ixl {i:Int}(h:ig l i=some y):bG (.ls l) (.int i) S = .ok y S:=by rw[Mr];simp only[AR,h]
theorem vV0:aa 0 (some t::r) S = .ok t S:=rfl
theorem bV0:(aa 0 (some t::r) S).aE f=f t S:=rfl
theorem sV0:(aa 0 (some t::r) S).bP f'=f' t S:=rfl
theorem kS0:lD 0 (a0::r) t S = .nx (some t::r) S:=rfl
theorem bN0:bY 0 t (a0::r) S = .ok (some t::r) S:=rfl
theorem bV1:(aa 1 (a0::some t::r) S).aE f=f t S:=rfl
theorem sV1:(aa 1 (a0::some t::r) S).bP f'=f' t S:=rfl
theorem kS1:lD 1 (a0::a1::r) t S = .nx (a0::some t::r) S:=rfl
theorem bN1:bY 1 t (a0::a1::r) S = .ok (a0::some t::r) S:=rfl
theorem vV2:aa 2 (a0::a1::some t::r) S = .ok t S:=rfl
theorem bV2:(aa 2 (a0::a1::some t::r) S).aE f=f t S:=rfl
theorem sV2:(aa 2 (a0::a1::some t::r) S).bP f'=f' t S:=rfl
theorem kS2:lD 2 (a0::a1::a2::r) t S = .nx (a0::a1::some t::r) S:=rfl
theorem bN2:bY 2 t (a0::a1::a2::r) S = .ok (a0::a1::some t::r) S:=rfl
theorem vV3:aa 3 (a0::a1::a2::some t::r) S = .ok t S:=rfl
theorem bV3:(aa 3 (a0::a1::a2::some t::r) S).aE f=f t S:=rfl
theorem sV3:(aa 3 (a0::a1::a2::some t::r) S).bP f'=f' t S:=rfl
theorem kS3:lD 3 (a0::a1::a2::a3::r) t S = .nx (a0::a1::a2::some t::r) S:=rfl
theorem bN3:bY 3 t (a0::a1::a2::a3::r) S = .ok (a0::a1::a2::some t::r) S:=rfl
theorem bV4:(aa 4 (a0::a1::a2::a3::some t::r) S).aE f=f t S:=rfl
theorem sV4:(aa 4 (a0::a1::a2::a3::some t::r) S).bP f'=f' t S:=rfl
theorem kS4:lD 4 (a0::a1::a2::a3::a4::r) t S = .nx (a0::a1::a2::a3::some t::r) S:=rfl
theorem bN4:bY 4 t (a0::a1::a2::a3::a4::r) S = .ok (a0::a1::a2::a3::some t::r) S:=rfl
theorem bV5:(aa 5 (a0::a1::a2::a3::a4::some t::r) S).aE f=f t S:=rfl
theorem sV5:(aa 5 (a0::a1::a2::a3::a4::some t::r) S).bP f'=f' t S:=rfl
theorem kS5:lD 5 (a0::a1::a2::a3::a4::a5::r) t S = .nx (a0::a1::a2::a3::a4::some t::r) S:=rfl
theorem bV6:(aa 6 (a0::a1::a2::a3::a4::a5::some t::r) S).aE f=f t S:=rfl
theorem kS6:lD 6 (a0::a1::a2::a3::a4::a5::a6::r) t S = .nx (a0::a1::a2::a3::a4::a5::some t::r) S:=rfl
theorem bN6:bY 6 t (a0::a1::a2::a3::a4::a5::a6::r) S = .ok (a0::a1::a2::a3::a4::a5::some t::r) S:=rfl
theorem kS7:lD 7 (a0::a1::a2::a3::a4::a5::a6::a7::r) t S = .nx (a0::a1::a2::a3::a4::a5::a6::some t::r) S:=rfl
theorem bV8:(aa 8 (a0::a1::a2::a3::a4::a5::a6::a7::some t::r) S).aE f=f t S:=rfl
theorem kS8:lD 8 (a0::a1::a2::a3::a4::a5::a6::a7::a8::r) t S = .nx (a0::a1::a2::a3::a4::a5::a6::a7::some t::r) S:=rfl
theorem kS9:lD 9 (a0::a1::a2::a3::a4::a5::a6::a7::a8::a9::r) t S = .nx (a0::a1::a2::a3::a4::a5::a6::a7::a8::some t::r) S:=rfl
theorem bN9:bY 9 t (a0::a1::a2::a3::a4::a5::a6::a7::a8::a9::r) S = .ok (a0::a1::a2::a3::a4::a5::a6::a7::a8::some t::r) S:=rfl
theorem al9:lD 10 (a0::a1::a2::a3::a4::a5::a6::a7::a8::a9::qH::r) t S = .nx (a0::a1::a2::a3::a4::a5::a6::a7::a8::a9::some t::r) S:=rfl
theorem ama:(aa 11 (a0::a1::a2::a3::a4::a5::a6::a7::a8::a9::qH::some t::r) S).aE f=f t S:=rfl
theorem amb:lD 11 (a0::a1::a2::a3::a4::a5::a6::a7::a8::a9::qH::w9::r) t S = .nx (a0::a1::a2::a3::a4::a5::a6::a7::a8::a9::qH::some t::r) S:=rfl
theorem amc:bY 11 t (a0::a1::a2::a3::a4::a5::a6::a7::a8::a9::qH::w9::r) S = .ok (a0::a1::a2::a3::a4::a5::a6::a7::a8::a9::qH::some t::r) S:=rfl
theorem amd:lD 12 (a0::a1::a2::a3::a4::a5::a6::a7::a8::a9::qH::w9::FU::r) t S = .nx (a0::a1::a2::a3::a4::a5::a6::a7::a8::a9::qH::w9::some t::r) S:=rfl
theorem ame:bY 12 t (a0::a1::a2::a3::a4::a5::a6::a7::a8::a9::qH::w9::FU::r) S = .ok (a0::a1::a2::a3::a4::a5::a6::a7::a8::a9::qH::w9::some t::r) S:=rfl
theorem amf:lD 13 (a0::a1::a2::a3::a4::a5::a6::a7::a8::a9::qH::w9::FU::a13::r) t S = .nx (a0::a1::a2::a3::a4::a5::a6::a7::a8::a9::qH::w9::FU::some t::r) S:=rfl
theorem amg:(aa 14 (a0::a1::a2::a3::a4::a5::a6::a7::a8::a9::qH::w9::FU::a13::some t::r) S).aE f=f t S:=rfl
theorem amh:lD 14 (a0::a1::a2::a3::a4::a5::a6::a7::a8::a9::qH::w9::FU::a13::a14::r) t S = .nx (a0::a1::a2::a3::a4::a5::a6::a7::a8::a9::qH::w9::FU::a13::some t::r) S:=rfl
theorem ami:(aa 15 (a0::a1::a2::a3::a4::a5::a6::a7::a8::a9::qH::w9::FU::a13::a14::some t::r) S).aE f=f t S:=rfl
theorem amj:lD 15 (a0::a1::a2::a3::a4::a5::a6::a7::a8::a9::qH::w9::FU::a13::a14::a15::r) t S = .nx (a0::a1::a2::a3::a4::a5::a6::a7::a8::a9::qH::w9::FU::a13::a14::some t::r) S:=rfl
theorem bC:(mC t r S).aE f=f t S:=rfl
theorem sC:(mC t r S).bP f'=f' t S:=rfl
theorem ahp:cV [n0] sb [x0] S=(sb [some x0] S).dN:=rfl
theorem ahq:cV [n0,n1] sb [x0] S=(sb [some x0,none] S).dN:=rfl
theorem ahr:cV [n0,n1,n2] sb [x0] S=(sb [some x0,none,none] S).dN:=rfl
theorem ahs:cV [n0,n1,n2,n3] sb [x0] S=(sb [some x0,none,none,none] S).dN:=rfl
theorem aht:cV [n0,n1,n2,n3,n4,n5,n6,n7] sb [x0] S=(sb [some x0,none,none,none,none,none,none,none] S).dN:=rfl
theorem aaV:cV [n0,n1,n2,n3,n4,n5,n6,n7,n8,n9,n10,n11,n12,n13,n14] sb [x0] S=(sb [some x0,none,none,none,none,none,none,none,none,none,none,none,none,none,none] S).dN:=rfl
theorem ahu:cV [n0,n1] sb [x0,x1] S=(sb [some x0,some x1] S).dN:=rfl
theorem ahv:cV [n0,n1,n2] sb [x0,x1] S=(sb [some x0,some x1,none] S).dN:=rfl
theorem ahw:cV [n0,n1,n2,n3] sb [x0,x1] S=(sb [some x0,some x1,none,none] S).dN:=rfl
theorem ahx:cV [n0,n1,n2,n3,n4] sb [x0,x1] S=(sb [some x0,some x1,none,none,none] S).dN:=rfl
theorem ahy:cV [n0,n1,n2,n3,n4,n5] sb [x0,x1] S=(sb [some x0,some x1,none,none,none,none] S).dN:=rfl
theorem ahz:cV [n0,n1,n2,n3,n4,n5,n6,n7] sb [x0,x1] S=(sb [some x0,some x1,none,none,none,none,none,none] S).dN:=rfl
theorem ahA:cV [n0,n1,n2,n3,n4,n5,n6,n7,n8] sb [x0,x1] S=(sb [some x0,some x1,none,none,none,none,none,none,none] S).dN:=rfl
theorem ahB:cV [n0,n1,n2] sb [x0,x1,x2] S=(sb [some x0,some x1,some x2] S).dN:=rfl
theorem ahC:cV [n0,n1,n2,n3] sb [x0,x1,x2] S=(sb [some x0,some x1,some x2,none] S).dN:=rfl
theorem ahD:cV [n0,n1,n2,n3,n4] sb [x0,x1,x2] S=(sb [some x0,some x1,some x2,none,none] S).dN:=rfl
theorem ahE:cV [n0,n1,n2,n3,n4,n5,n6,n7,n8] sb [x0,x1,x2] S=(sb [some x0,some x1,some x2,none,none,none,none,none,none] S).dN:=rfl
theorem ahF:cV [n0,n1,n2,n3] sb [x0,x1,x2,x3] S=(sb [some x0,some x1,some x2,some x3] S).dN:=rfl
theorem ahG:cV [n0,n1,n2,n3,n4] sb [x0,x1,x2,x3] S=(sb [some x0,some x1,some x2,some x3,none] S).dN:=rfl
theorem ahH:cV [n0,n1,n2,n3,n4,n5,n6,n7] sb [x0,x1,x2,x3] S=(sb [some x0,some x1,some x2,some x3,none,none,none,none] S).dN:=rfl
theorem aaW:cV [n0,n1,n2,n3,n4,n5,n6,n7,n8,n9,n10,n11,n12,n13,n14,n15] sb [x0,x1,x2,x3] S=(sb [some x0,some x1,some x2,some x3,none,none,none,none,none,none,none,none,none,none,none,none] S).dN:=rfl
theorem ahI:cV [n0,n1,n2,n3,n4] sb [x0,x1,x2,x3,x4] S=(sb [some x0,some x1,some x2,some x3,some x4] S).dN:=rfl
theorem ahJ:fnX [n0,n1,n2,n3] sb [x0,x1] S=(sb [some x0,some x1,none,none] S).aaB:=rfl
theorem kF1:kFn 1 q [x0] S=q [x0] S:=rfl
theorem kF2:kFn 2 q [x0,x1] S=q [x0,x1] S:=rfl
theorem kF3:kFn 3 q [x0,x1,x2] S=q [x0,x1,x2] S:=rfl
theorem kF4:kFn 4 q [x0,x1,x2,x3] S=q [x0,x1,x2,x3] S:=rfl
theorem kF5:kFn 5 q [x0,x1,x2,x3,x4] S=q [x0,x1,x2,x3,x4] S:=rfl
theorem kM1:tG 1 q t [] S=q [t] S:=rfl
theorem kM2:tG 2 q t [x0] S=q [t,x0] S:=rfl
theorem kM3:tG 3 q t [x0,x1] S=q [t,x0,x1] S:=rfl
theorem kK3:FQ c 3 q [x0,x1] S=(q [.hd S.length,x0,x1] (S++[.d_ c []])).aE (tH S.length):=rfl
theorem kK5:FQ c 5 q [x0,x1,x2,x3] S=(q [.hd S.length,x0,x1,x2,x3] (S++[.d_ c []])).aE (tH S.length):=rfl
theorem kL0:zm [] S = .ok (.ls []) S:=if_pos (sl 0 rfl)
theorem kC0:UN [] S = .ok (.hd S.length) (S++[.bM []])  := if_pos (sl 0 rfl)
theorem kT1:zl [x0] S = .ok (.tp [x0]) S:=if_pos (sl 1 rfl)
theorem kL1:zm [x0] S = .ok (.ls [x0]) S:=if_pos (sl 1 rfl)
theorem kT2:zl [x0,x1] S = .ok (.tp [x0,x1]) S:=if_pos (sl 2 rfl)
theorem kL2:zm [x0,x1] S = .ok (.ls [x0,x1]) S:=if_pos (sl 2 rfl)
theorem kT3:zl [x0,x1,x2] S = .ok (.tp [x0,x1,x2]) S:=if_pos (sl 3 rfl)
theorem kL3:zm [x0,x1,x2] S = .ok (.ls [x0,x1,x2]) S:=if_pos (sl 3 rfl)
theorem kT4:zl [x0,x1,x2,x3] S = .ok (.tp [x0,x1,x2,x3]) S:=if_pos (sl 4 rfl)
theorem kL4:zm [x0,x1,x2,x3] S = .ok (.ls [x0,x1,x2,x3]) S:=if_pos (sl 4 rfl)
theorem kT5:zl [x0,x1,x2,x3,x4] S = .ok (.tp [x0,x1,x2,x3,x4]) S:=if_pos (sl 5 rfl)
theorem kL5:zm [x0,x1,x2,x3,x4] S = .ok (.ls [x0,x1,x2,x3,x4]) S:=if_pos (sl 5 rfl)
theorem kT6:zl [x0,x1,x2,x3,x4,x5] S = .ok (.tp [x0,x1,x2,x3,x4,x5]) S:=if_pos (sl 6 rfl)
theorem kL6:zm [x0,x1,x2,x3,x4,x5] S = .ok (.ls [x0,x1,x2,x3,x4,x5]) S:=if_pos (sl 6 rfl)
theorem kT7:zl [x0,x1,x2,x3,x4,x5,x6] S = .ok (.tp [x0,x1,x2,x3,x4,x5,x6]) S:=if_pos (sl 7 rfl)
theorem kT8:zl [x0,x1,x2,x3,x4,x5,x6,x7] S = .ok (.tp [x0,x1,x2,x3,x4,x5,x6,x7]) S:=if_pos (sl 8 rfl)
theorem kL8:zm [x0,x1,x2,x3,x4,x5,x6,x7] S = .ok (.ls [x0,x1,x2,x3,x4,x5,x6,x7]) S:=if_pos (sl 8 rfl)
theorem iT0:bG (.tp (y::l)) (.int 0) S = .ok y S:=UW (by simp[at0])
theorem iT1:bG (.tp (x0::y::l)) (.int 1) S = .ok y S:=UW (by simp[at1])
theorem iT2:bG (.tp (x0::x1::y::l)) (.int 2) S = .ok y S:=UW (by simp[at2])
theorem iT3:bG (.tp (x0::x1::x2::y::l)) (.int 3) S = .ok y S:=UW (by simp[at3])
theorem iT4:bG (.tp (x0::x1::x2::x3::y::l)) (.int 4) S = .ok y S:=UW (by simp[at4])
theorem iT5:bG (.tp (x0::x1::x2::x3::x4::y::l)) (.int 5) S = .ok y S:=UW (by simp[at5])
theorem iT6:bG (.tp (x0::x1::x2::x3::x4::x5::y::l)) (.int 6) S = .ok y S:=UW (by simp[at6])
theorem iT7:bG (.tp (x0::x1::x2::x3::x4::x5::x6::y::l)) (.int 7) S = .ok y S:=UW (by simp[at7])
theorem iL0:bG (.ls (y::l)) (.int 0) S = .ok y S:=ixl (by simp[at0])
theorem iL1:bG (.ls (x0::y::l)) (.int 1) S = .ok y S:=ixl (by simp[at1])
theorem amk:ai g (aa 0) fb (some t::r) S=(fb (some t::r) S).aE (g t):=rfl
theorem aml:tF g (aa 0) (some t::r) y S=g y t S:=rfl
theorem aV0:af (aa 0) fr (some t::r) S=(fr (some t::r) S).aE (fj t):=rfl
theorem amm:ai g (aa 1) fb (a0::some t::r) S=(fb (a0::some t::r) S).aE (g t):=rfl
theorem amn:tF g (aa 1) (a0::some t::r) y S=g y t S:=rfl
theorem aV1:af (aa 1) fr (a0::some t::r) S=(fr (a0::some t::r) S).aE (fj t):=rfl
theorem amo:ai g (aa 2) fb (a0::a1::some t::r) S=(fb (a0::a1::some t::r) S).aE (g t):=rfl
theorem amq:tF g (aa 2) (a0::a1::some t::r) y S=g y t S:=rfl
theorem aV2:af (aa 2) fr (a0::a1::some t::r) S=(fr (a0::a1::some t::r) S).aE (fj t):=rfl
theorem amr:ai g (aa 3) fb (a0::a1::a2::some t::r) S=(fb (a0::a1::a2::some t::r) S).aE (g t):=rfl
theorem ams:tF g (aa 3) (a0::a1::a2::some t::r) y S=g y t S:=rfl
theorem aV3:af (aa 3) fr (a0::a1::a2::some t::r) S=(fr (a0::a1::a2::some t::r) S).aE (fj t):=rfl
theorem amt:ai g (aa 4) fb (a0::a1::a2::a3::some t::r) S=(fb (a0::a1::a2::a3::some t::r) S).aE (g t):=rfl
theorem amu:tF g (aa 4) (a0::a1::a2::a3::some t::r) y S=g y t S:=rfl
theorem aV4:af (aa 4) fr (a0::a1::a2::a3::some t::r) S=(fr (a0::a1::a2::a3::some t::r) S).aE (fj t):=rfl
theorem amv:ai g (aa 5) fb (a0::a1::a2::a3::a4::some t::r) S=(fb (a0::a1::a2::a3::a4::some t::r) S).aE (g t):=rfl
theorem aV5:af (aa 5) fr (a0::a1::a2::a3::a4::some t::r) S=(fr (a0::a1::a2::a3::a4::some t::r) S).aE (fj t):=rfl
theorem amw:ai g (aa 6) fb (a0::a1::a2::a3::a4::a5::some t::r) S=(fb (a0::a1::a2::a3::a4::a5::some t::r) S).aE (g t):=rfl
theorem amx:tF g (aa 6) (a0::a1::a2::a3::a4::a5::some t::r) y S=g y t S:=rfl
theorem aV6:af (aa 6) fr (a0::a1::a2::a3::a4::a5::some t::r) S=(fr (a0::a1::a2::a3::a4::a5::some t::r) S).aE (fj t):=rfl
theorem amy:ai g (aa 7) fb (a0::a1::a2::a3::a4::a5::a6::some t::r) S=(fb (a0::a1::a2::a3::a4::a5::a6::some t::r) S).aE (g t):=rfl
theorem amz:tF g (aa 7) (a0::a1::a2::a3::a4::a5::a6::some t::r) y S=g y t S:=rfl
theorem aV7:af (aa 7) fr (a0::a1::a2::a3::a4::a5::a6::some t::r) S=(fr (a0::a1::a2::a3::a4::a5::a6::some t::r) S).aE (fj t):=rfl
theorem amA:ai g (aa 8) fb (a0::a1::a2::a3::a4::a5::a6::a7::some t::r) S=(fb (a0::a1::a2::a3::a4::a5::a6::a7::some t::r) S).aE (g t):=rfl
theorem aV8:af (aa 8) fr (a0::a1::a2::a3::a4::a5::a6::a7::some t::r) S=(fr (a0::a1::a2::a3::a4::a5::a6::a7::some t::r) S).aE (fj t):=rfl
theorem amB:ai g (aa 9) fb (a0::a1::a2::a3::a4::a5::a6::a7::a8::some t::r) S=(fb (a0::a1::a2::a3::a4::a5::a6::a7::a8::some t::r) S).aE (g t):=rfl
theorem amC:tF g (aa 9) (a0::a1::a2::a3::a4::a5::a6::a7::a8::some t::r) y S=g y t S:=rfl
theorem aV9:af (aa 9) fr (a0::a1::a2::a3::a4::a5::a6::a7::a8::some t::r) S=(fr (a0::a1::a2::a3::a4::a5::a6::a7::a8::some t::r) S).aE (fj t):=rfl
theorem ahK:ai g (aa 10) fb (a0::a1::a2::a3::a4::a5::a6::a7::a8::a9::some t::r) S=(fb (a0::a1::a2::a3::a4::a5::a6::a7::a8::a9::some t::r) S).aE (g t):=rfl
theorem amD:af (aa 10) fr (a0::a1::a2::a3::a4::a5::a6::a7::a8::a9::some t::r) S=(fr (a0::a1::a2::a3::a4::a5::a6::a7::a8::a9::some t::r) S).aE (fj t):=rfl
theorem amE:af (aa 11) fr (a0::a1::a2::a3::a4::a5::a6::a7::a8::a9::qH::some t::r) S=(fr (a0::a1::a2::a3::a4::a5::a6::a7::a8::a9::qH::some t::r) S).aE (fj t):=rfl
theorem ahL:ai g (aa 12) fb (a0::a1::a2::a3::a4::a5::a6::a7::a8::a9::qH::w9::some t::r) S=(fb (a0::a1::a2::a3::a4::a5::a6::a7::a8::a9::qH::w9::some t::r) S).aE (g t):=rfl
theorem ahM:ai g (aa 13) fb (a0::a1::a2::a3::a4::a5::a6::a7::a8::a9::qH::w9::FU::some t::r) S=(fb (a0::a1::a2::a3::a4::a5::a6::a7::a8::a9::qH::w9::FU::some t::r) S).aE (g t):=rfl
theorem amF:af (aa 13) fr (a0::a1::a2::a3::a4::a5::a6::a7::a8::a9::qH::w9::FU::some t::r) S=(fr (a0::a1::a2::a3::a4::a5::a6::a7::a8::a9::qH::w9::FU::some t::r) S).aE (fj t):=rfl
theorem sS4:(R.ok t S).bP (lD 4 (a0::a1::a2::a3::a4::r)) = .nx (a0::a1::a2::a3::some t::r) S:=rfl
theorem kBC:tF g (mC y) r t S=g t y S:=rfl
theorem kCN:Mi ak r t S = .ok [t] S:=rfl
theorem aC:af (mC t) fr r S=(fr r S).aE (fj t):=rfl
theorem ln7:∀{p0 p1 p2 p3 p4 p5 p6:Str×Tr},([p0,p1,p2,p3,p4,p5,p6]:List (Str×Tr)).length=7:=rfl
theorem amG:∀{p0 p1 p2 p3 p4 p5 p6 p7 p8 p9 p10 p11:Str×Tr},([p0,p1,p2,p3,p4,p5,p6,p7,p8,p9,p10,p11]:List (Str×Tr)).length=12:=rfl
end
section
variable {G:Gx}{k:Nat}{X:Cx}{e o:Expr}{es:List Expr}{f:Em}{fo:Em}{fr:En->Cs->R (List Tr)}{x:Str}{pos jD p fN:Pos}{CX:_}{j n:Nat}{ad:Addr}{fd:FuncData}{ps:List Str}{q:Fn}{st:Stmt}{c m:Str}
theorem amH (i:Nat)(hN:X.N.Nodup)(he:TV G k X e f)(hi:autoParam (X.N[i]? = some x) zp_0)(hx:autoParam (Ub X.env.scope x) zp_10)(hs:autoParam (swapsWith e (some (.Name x jD)) pos.line X.env=pure false) zp_0)(hf:autoParam (X.fn x=true\/X.env.scope.names.lookup x=some .local) zp_4):yS G k X (.Assign [.Name x jD] e pos) (aX i f):=ZY hN hi hx he hs hf
theorem fU (i:Nat)(hN:X.N.Nodup)(hi:autoParam (X.N[i]? = some x) zp_0)(hx:autoParam (Ub X.env.scope x) zp_10)(hf:autoParam (X.fn x=true\/X.env.scope.names.lookup x=some .local) zp_4):Lz G k X (.Name x pos) (bY i):=Rb hN hi hx hf
theorem di (F:aN X.prog X.w X.K X.mg X.base CX j ad fd ps (dz G.K G.cl n q))(D:pU X.K X.mg x st ps ad fd)(ha:vO G k X (e::es) fr)(hj:autoParam (j<=k) zp_1)(hx:gb CX X G.E:=by first|exact aA|exact DK)
  (hg:autoParam (Gl X x) zp_0) (sf:autoParam ((x == ("__debug__" : Str))=false) zp_1) (he:autoParam (dP e=false) zp_0) (iA:autoParam (dc es=true) zp_0) (Ae:autoParam (0<k) zp_2):
  TV G k X (.Call (.Name x p) (e::es) [] pos) (gj n q fr):=Rp F hj D.m D.F.kp D.b hx ha hg sf he iA Ae
theorem JQ {F T:List Str}{ns:List Nat}{sc:Scope}(st:Stmt)(d:(∀y∈sc.names,y.2 ≠ .cell)/\(∀y∈sc.names,y.2 = .local->sc.names.lookup y.1=some .local)/\(∀y∈sc.names,y.2 = .free->(aj st).names.lookup y.1=some .cell)/\∀x∈F,sc.names.lookup x=some .free)(h1:autoParam (sc.kind = .function) zp_0)(h6:autoParam (ns.map (λj=>X.N[j]?)=F.map some) zp_0)(he:autoParam (∀n,X.env.kindOf n=(aj st).names.lookup n) zp_3):dw X F T ns sc:=⟨h1,d.1,d.2.1,λy hy h=>(he _).trans (d.2.2.1 y hy h),d.2.2.2,h6⟩
end
section
variable {prog:Program}{w:World}{A:Around}{E:Value->Shared->Prop}{s:Shared}{z0:Array Keyed}
end
section
variable {G:Gx}{k:Nat}{w:Wd}{X:Cx}{ah:List (Addr×Obj)}{s:Shared}{σ:St}{H:Hp}
end
end L2
namespace L2
open PySem PySem.Spec PyProof.Rows
section
variable {X:Cx}{o:Expr}{lo hi:Option Expr}{to:TE}{tl th:TO}{p2 pos:Pos}
end
section
variable {G:Gx}{k:Nat}{w:Wd}{X:Cx}{o:Expr}{fo fl fh:Em}{p2 pos:Pos}
end
section
variable {G:Gx}{k:Nat}{w:Wd}{X:Cx}{ah:List (Addr×Obj)}{s:Shared}{σ:St}{H:Hp}
end
end L2
namespace L2
open PySem PySem.Spec PyProof.Rows
section
variable {prog:Program}{w:World}{A:Around}{E:Value->Shared->Prop}{s:Shared}
end
end L2
namespace L2
open PySem PySem.Spec PyProof.Rows
noncomputable def ahN (K:W.Frag)(a:Addr)(n:Nat):It:=
 ⟨λi H=>i<n/\∃xs,iO K H a xs/\xs.length=n,λi H x H'=>H'=H/\∀xs,iO K H a xs->xs[n - 1 - i]? = some x,λi _=>i=n⟩
theorem Iz {P:Program}{w:World}{K:W.Frag}{tg:Expr}(a it:Addr)(n:Nat):CT P w K tg (ahN K a n) [it] it (λi h=>h.IsRevIter it a ((n:Int) - 1 - (i:Nat))) where
 mem:=by simp
 lG:=λi h st b hb=>by
  have e:b=it:=by simpa using hb
  subst e;obtain⟨o,e,c,d⟩:=st;exact⟨o,e,λv z=>by rw[d] at z;cases z⟩
 keep:=λi h h' st k=>st.at λo e=>k it (by simp) o e
 item:=by
  intro X hP hw hK hc i ah s σ H E I hf st hg;subst hP hw hK;obtain⟨hi,xs,hq,hl⟩:=hg;subst hl;obtain⟨bg,rv,p,hz⟩:=I.list hq;have hx:xs[xs.length - 1 - i]? = some (xs[xs.length - 1 - i]'(by omega)):=zae _
  obtain⟨u,hu,ru⟩:=rv.get hx;obtain⟨f0,f1,f2,f3,f4,f5⟩:=hf it (by simp)
  have ei:(xs.length:Int) - 1 - (i:Nat)=((xs.length - 1 - i:Nat):Int):=by omega
  have ej:(xs.length:Int) - 1 - ((i+1:Nat):Int)=((xs.length - 1 - i:Nat):Int) - 1:=by omega
  rw[ei] at st;refine wpAny_pyNext_rev_item st p.isList (x:=u) (by simpa using hu) λh' v8 sb=>?_
  have I1:aL X ah σ H {s with heap:=h' }:=I.iN (t':=s.toks) (λb o hb e=>(sb.2 b hb).trans e) f0 f1 f3 f4 f5
  obtain⟨o,e,c,d⟩:=id v8;exact⟨u,rfl,Am (s:={s with heap:=h' }) e c d (by decide) ⟨_,H,I1,ru,⟨rfl,λys hy=>by rw[I.rY hy hq];exact hx⟩,by rw[ej];exact v8,λb hb=>(hf b hb).1⟩⟩
 done:=by
  intro X hP hw hK hc i ah s σ H E I hf st hg;subst hP hw hK;have hg:i=n:=hg
  subst hg;obtain⟨f0,f1,f2,f3,f4,f5⟩:=hf it (by simp)
  rw[show (i:Int) - 1 - (i:Nat) = -1 by omega] at st
  exact wpAny_pyNext_rev_end (I.ok.hd hc) st λh' eb=>⟨rfl,I.iN (t':=s.toks) (λb o hb e=>eb b o hb e) f0 f1 f3 f4 f5⟩
 self:=λ_ _ _ _ _ st h=>wpAny_pyIter_revIter st h
section
variable {X:Cx}{tg a:Expr}{ta:TA}{p2 Dq:Pos}
noncomputable def ahO (K:W.Frag)(ta:TA):TI:=λσ H R=>ta σ H λvs H1=>∃a xs,vs=[.ref a]/\iO K H1 a xs/\R (ahN K a xs.length) H1
theorem Sd (hg2:Gl X "reversed")(hm2:X.mg "reversed"=none)(ha:PA X [a] ta)(hs:autoParam (starEach [a] X.env=[(false,eval a X.env)]) zp_0):PI X tg (.Call (.Name "reversed" p2) [a] [] Dq) (ahO X.K ta):=by
 intro ah s σ H R I h;refine Call_ (rX I hg2 hm2 boot_reversed (zbL (cH (ha Dq ah s σ H _ I h) λus s1 bS=>?_) hs rfl))
 obtain⟨vs,H1,I1,r1,q1⟩:=bS;obtain⟨p,xs,e,hq,q⟩:=q1;subst e;obtain⟨u,rfl,rx⟩:=qo r1;cases rx;obtain⟨bg,rv,pl,hz⟩:=I1.list hq;refine call_reversed_list pl.isList ?_
 have st:(s1.heap.push (revObj p ((bg.toArray.size:Int) - 1))).IsRevIter s1.heap.objs.size p ((bg.toArray.size:Int) - 1):=⟨_,zap _ rfl,rfl,rfl⟩
 refine wpAny_pyIter_revIter st ?_
 refine⟨s1.heap.objs.size,[s1.heap.objs.size],_,_,H1,rfl,I1.gH (t':=s1.toks) λb o e=>zad _ e,Iz p _ xs.length,?_,λb hb=>?_,q⟩
 ·have hl:=rv.length
  show Heap.IsRevIter _ _ _ ((xs.length:Int) - 1 - ((0:Nat):Int))
  rw[show (xs.length:Int) - 1 - ((0:Nat):Int)=((bg.toArray.size:Int) - 1) by simp;omega]
  exact st
 ·have e:b=s1.heap.objs.size:=by simpa using hb
  subst e;exact I1.Al (zah _) (I1.cA.fresh (zah _))
end
section
variable {G:Gx}{k:Nat}{X:Cx}{a tg:Expr}{fr:En->Cs->R (List Tr)}{p2 Dq:Pos}
noncomputable def MC (fr:En->Cs->R (List Tr)):En->Cs->R Ac:=λτ S=>(fr τ S).aE λts S1=>match ts with
 |[t]=>(iL t S1).aE λs S2=>.ok ⟨s.items.reverse,s.gF⟩ S2
 |_=>.aG
theorem Se (hm2:X.mg "reversed"=none)(ha:vO G k X [a] fr)(hg2:autoParam (Gl X "reversed") zp_0)(hs:autoParam (dP a=false) zp_0):LU G k X tg (.Call (.Name "reversed" p2) [a] [] Dq) (MC fr):=.mk<|λox=>(Sd hg2 hm2 (ha ox) (eO hs)).wk λσ H Q h=>by
 obtain⟨w,S,τ,hr,sl,q⟩:=h;refine⟨w,S,τ,hr,sl,(bz.aE q).mono λxs H1 bS=>?_⟩
 obtain⟨w1,S1,ts,dh,bO,r1,_,q1⟩:=bS;split at q1
 ·rename_i t1 _
  obtain⟨x,rfl,rx⟩:=fE r1;cases e:iL t1 S1 with
  |ok s S2 =>
   rw[e] at q1;obtain⟨rfl,p,l,rfl,⟨xs,sq,R⟩,ei,st⟩:=y_ bO rx e
   refine⟨p,xs,rfl,by rw[ox.K];exact sq,q1 w1 H1 _ (.refl _) bO λw2 S2 H2 i hK hn iw hF dR hc=>?_⟩
   obtain⟨ys,Fy,R2⟩:=st w2 S2 H2 hK hn iw hF dR hc;have el:ys.length=xs.length:=by rw[R2.len,R.len]
   have el2:xs.length=l.length:=R.len
   subst ei;show (∀t,s.items.reverse[i]? = some t->_)/\(i=s.items.reverse.length->_)
   refine⟨λt et=>?_,λhi=>?_⟩
   ·have jc:i<s.items.length:=by
     have:=(zab.mp et).1
     simpa using this
    rw[zea jc,<-el2] at et;obtain⟨v,ev,rv⟩:=R2.get et;refine⟨⟨by omega,ys,by rw[ox.K];exact Fy,el⟩,λy H3 dB=>?_⟩
    obtain⟨e3,hy⟩:=dB;subst e3
    have:=hy ys (by rw[ox.K];exact Fy)
    rw[ev] at this;cases this;exact⟨w2,.refl _,dR,rv⟩
   ·show i=xs.length
    rw[hi,List.length_reverse,el2]
  |ex n S2=>exact absurd e zd
  |aG=>rw[e] at q1;exact q1.elim
 ·exact q1.elim
theorem Sf (fr:En->Cs->R (List Tr))(τ:En)(S:Cs):MC fr τ S=(fr τ S).aE λts S1=>match ts with
 |[t]=>(iL t S1).aE λs S2=>.ok ⟨s.items.reverse,s.gF⟩ S2
 |_=>.aG:=rfl
end
end L2
namespace L2
open PySem
def bp:=jp @vV0<|jp @bV0<|jp @sV0<|jp @kS0<|jp @bN0<|jp @bV1<|jp @sV1<|jp @kS1<|jp @bN1<|jp @vV2<|jp @bV2<|jp @sV2<|jp @kS2<|jp @bN2<|jp @vV3<|jp @bV3<|jp @sV3<|jp @kS3<|jp @bN3<|jp @bV4<|jp @sV4<|jp @kS4<|jp @bN4<|jp @bV5<|jp @sV5<|jp @kS5<|jp @bV6<|jp @kS6<|jp @bN6<|jp @kS7<|jp @bV8<|jp @kS8<|jp @kS9<|jp @bN9<|jp @al9<|jp @ama<|jp @amb<|jp @amc<|jp @amd<|jp @ame<|jp @amf<|jp @amg<|jp @amh<|jp @ami<|jp @amj<|jp @bC<|jp @sC<|jp @ahp<|jp @ahq<|jp @ahr<|jp @ahs<|jp @aht<|jp @aaV<|jp @ahu<|jp @ahv<|jp @ahw<|jp @ahx<|jp @ahy<|jp @ahz<|jp @ahA<|jp @ahB<|jp @ahC<|jp @ahD<|jp @ahE<|jp @ahF<|jp @ahG<|jp @ahH<|jp @aaW<|jp @ahI<|jp @ahJ<|jp @kF1<|jp @kF2<|jp @kF3<|jp @kF4<|jp @kF5<|jp @kM1<|jp @kM2<|jp @kM3<|jp @kK3<|jp @kK5<|jp @kL0<|jp @kC0<|jp @kT1<|jp @kL1<|jp @kT2<|jp @kL2<|jp @kT3<|jp @kL3<|jp @kT4<|jp @kL4<|jp @kT5<|jp @kL5<|jp @kT6<|jp @kL6<|jp @kT7<|jp @kT8<|jp @kL8<|jp @iT0<|jp @iT1<|jp @iT2<|jp @iT3<|jp @iT4<|jp @iT5<|jp @iT6<|jp @iT7<|jp @iL0<|jp @iL1<|jp @amk<|jp @aml<|jp @aV0<|jp @amm<|jp @amn<|jp @aV1<|jp @amo<|jp @amq<|jp @aV2<|jp @amr<|jp @ams<|jp @aV3<|jp @amt<|jp @amu<|jp @aV4<|jp @amv<|jp @aV5<|jp @amw<|jp @amx<|jp @aV6<|jp @amy<|jp @amz<|jp @aV7<|jp @amA<|jp @aV8<|jp @amB<|jp @amC<|jp @aV9<|jp @ahK<|jp @amD<|jp @amE<|jp @ahL<|jp @ahM<|jp @amF<|jp @sS4<|jp @kBC<|jp @kCN<|jp @aC<|jp @ln7<|@amG
def bx:=jp @A0<|jp @Z9<|jp @RU<|jp @Ir<|jp @Mp<|jp @RV<|jp @Mq<|jp @RW<|jp @ahf<|jp @RX<|jp @Iw<|jp @RY<|jp @RZ<|jp @R0<|jp @aaE<|jp @aaF<|jp @R3<|jp @ahg<|jp @R.eL<|jp @R.QW<|jp @R.eN<|jp @R.AL<|jp @Z_<|jp @aaa<|jp @RA<|jp @aab<|jp @s_<|jp @RB<|jp @al5<|jp @ahh<|jp @aaG<|jp @aaH<|jp @aaI<|jp @aaJ<|jp @aaK<|jp @aaL<|jp @ahi<|jp @aaM<|jp @Mr<|jp @aaN<|jp @R4<|jp @aaO<|jp @aaP<|jp @zas.{0,0}<|jp @zbM.{0,0}<|jp @zaD.{0}<|jp @zaG.{0}<|jp @zaL.{0}<|jp @zdO.{0}<|jp @zaX.{0}<|jp @zaE.{0}<|jp @List.set_cons_zero.{0}<|jp @zdi.{0}<|jp @zbW.{0}<|jp @zbr.{0}<|jp @zeu.{0}<|jp @Option.isNone_some.{0}<|jp @zeB.{0}<|jp @aac<|jp @zcd<|jp @agI<|jp @alF<|jp @if_true.{0}<|jp @if_false.{0}<|jp @decide_true<|jp @decide_false<|jp @Bool.not_true<|jp @Bool.not_false<|jp @and_true<|jp @false_and<|jp @and_false<|jp @or_true<|jp @true_or<|jp @or_false<|jp @not_true_eq_false<|jp @not_false_eq_true<|jp @at0<|jp @bA<|jp @g_<|jp @and_self<|jp @or_self<|jp @aga<|jp @Rx<|jp @L4<|jp @Ry<|jp @Rz<|jp @mP<|jp @RC<|jp @R7<|jp @gQ<|jp @R8<|jp @tu<|jp @wO<|jp @al6<|jp @Ip<|jp @L6<|jp @L5<|jp @UJ<|jp @aaQ<|jp @zaf.{0}<|jp @zac.{0,0}<|jp @Int.cast_ofNat_Int<|jp @List.isEmpty_cons.{0}<|jp @Int.zero_add<|jp @agP<|jp @agQ<|jp @vIf<|jp @agR<|jp @alM<|jp @agS<|jp @agT<|jp @alN<|jp @agU<|jp @aao<|jp @alP<|jp @agW<|jp @Mg<|jp @RG<|jp @agX<|jp @alQ<|jp @vB<|jp @aap<|jp @alR<|jp @vUn<|jp @vC<|jp @agY<|jp @Mh<|jp @RH<|jp @agZ<|jp @alS<|jp @alT<|jp @alU<|jp @ag0<|jp @vFn<|jp @RI<|jp @ag1<|jp @Mj<|jp @ag2<|jp @alV<|jp @aar<|jp @aas<|jp @alW<|jp @aat<|jp @alX<|jp @aav<|jp @aaw<|jp @alY<|jp @ag4<|jp @ag5<|jp @vOr<|jp @RJ<|jp @ag6<|jp @RL<|jp @ag7<|jp @aax<|jp @al0<|jp @aay<|jp @al1<|jp @aaz<|jp @al2<|jp @vIt<|jp @ahb<|jp @RM<|jp @aaA<|jp @al3<|jp @DM<|jp @Iv<|jp @RN<|jp @RO<|jp @RP<|jp @RQ<|jp @aaC<|jp @Mn<|jp @aaD<|jp @zo<|jp @gy.eq_1<|jp @Ik.eq_1<|jp @Ik.eq_2<|jp @oQ.eq_1<|jp @oQ.eq_2<|jp @Im.eq_1<|jp @Im.eq_2<|jp @oO.eq_1<|jp @oO.eq_2<|jp @ZN.eq_1<|jp @ZN.eq_2<|jp @qA.eq_1<|jp @qA.eq_2<|jp @jh.eq_1<|jp @jh.eq_2<|jp @jh.eq_3<|jp @AR.eq_1<|jp @AR.eq_2<|jp @AR.eq_3<|jp @AR.eq_4<|jp @AR.eq_5<|jp @AR.eq_6<|jp @Fj.eq_1<|jp @Fj.eq_2<|jp @Fj.eq_3<|jp @Fj.eq_4<|jp @UB.eq_1<|jp @UB.eq_2<|jp @UB.eq_3<|jp @Pc.eq_1<|jp @Pc.eq_2<|jp @AQ.eq_1<|jp @AQ.eq_2<|jp @AQ.eq_3<|jp @cD.eq_1<|jp @sV.eq_1<|jp @iy.eq_1<|jp @CJ.eq_1<|jp @ckD.eq_1<|jp @jy.eq_1<|jp @zk.eq_1<|jp @zk.eq_2<|jp @wR.eq_1<|jp @A1.eq_1<|jp @A1.eq_2<|jp @gT2.eq_1<|@gT2.eq_2
end L2
namespace My
open PySem L2
theorem FW {α:Type}{a:α}{l:List α}:(a::l).length=l.length+1:=by first|exact zaD|exact zaD _|simp
theorem tK {α β:Type}{f:α -> β}{a:α}{l:List α}:List.map f (a::l)=f a::List.map f l:=by first|exact zas|exact zas _|simp
theorem A5 {α β:Type}{f:α -> β}:List.map f []=[]:=by first|exact zbM|exact zbM _|simp
theorem CM {α:Type}{l:List α}:[]++l=l:=by first|exact zdO|exact zdO _|simp
noncomputable def eS (i:Nat):Stmt:=PySem.Challenge.pw_inningsbook_k53_whole_there_and_back.main.body.getD i (.Pass ⟨0,0,0,0⟩)
noncomputable abbrev UX:Stmt:=eS 40
noncomputable abbrev UY:Stmt:=eS 41
noncomputable abbrev UZ:Stmt:=eS 42
noncomputable abbrev U0:Stmt:=eS 43
noncomputable abbrev FY:Stmt:=eS 44
noncomputable abbrev MD:Stmt:=eS 32
noncomputable abbrev ME:Stmt:=aM (eS 35) 0
noncomputable abbrev U1:Stmt:=aM (eS 35) 1
noncomputable abbrev U3:Stmt:=aM (eS 35) 2
noncomputable abbrev MF:Stmt:=aM (eS 35) 3
noncomputable abbrev U4:Stmt:=aM (eS 35) 4
noncomputable abbrev U7:Stmt:=aM (eS 35) 5
noncomputable abbrev U8:Stmt:=aM (eS 35) 24
noncomputable abbrev U9:Stmt:=aM (eS 35) 20
noncomputable abbrev MG:Stmt:=aM (eS 35) 23
noncomputable abbrev U_:Stmt:=aM (eS 35) 21
noncomputable abbrev Va:Stmt:=aM (eS 35) 6
noncomputable abbrev Vb:Stmt:=aM (eS 35) 22
noncomputable abbrev Vc:Stmt:=eS 45
noncomputable abbrev MH:Stmt:=eS 46
noncomputable abbrev Vd:Stmt:=aM (eS 35) 8
noncomputable abbrev Ve:Stmt:=aM (eS 35) 9
noncomputable abbrev Vf:Stmt:=aM (eS 23) 1
noncomputable abbrev Vg:Stmt:=eS 28
noncomputable abbrev Vh:Stmt:=aM (eS 35) 10
noncomputable abbrev Vi:Stmt:=aM (eS 35) 7
noncomputable abbrev Vj:Stmt:=aM (eS 35) 11
noncomputable abbrev Vk:Stmt:=aM (eS 23) 2
noncomputable abbrev Vl:Stmt:=eS 17
noncomputable abbrev Vm:Stmt:=eS 18
noncomputable abbrev Vn:Stmt:=eS 19
noncomputable abbrev Vo:Stmt:=eS 25
noncomputable abbrev Vp:Stmt:=eS 26
noncomputable abbrev Vq:Stmt:=eS 27
noncomputable abbrev Vr:Stmt:=eS 29
noncomputable abbrev Vs:Stmt:=aM (eS 35) 12
noncomputable abbrev ahP:Stmt:=aM (eS 23) 0
noncomputable abbrev Vt:Stmt:=aM (eS 35) 13
noncomputable abbrev Vu:Stmt:=eS 20
noncomputable abbrev Vv:Stmt:=eS 21
noncomputable abbrev Vw:Stmt:=aM (eS 23) 8
noncomputable abbrev Vx:Stmt:=aM (eS 23) 4
noncomputable abbrev Vy:Stmt:=aM (eS 23) 5
noncomputable abbrev Vz:Stmt:=aM (eS 23) 9
noncomputable abbrev VA:Stmt:=aM (eS 23) 10
noncomputable abbrev VB:Stmt:=aM (eS 23) 11
noncomputable abbrev VC:Stmt:=aM (eS 35) 14
noncomputable abbrev VD:Stmt:=aM (eS 23) 6
noncomputable abbrev VE:Stmt:=aM (eS 23) 7
noncomputable abbrev MI:Stmt:=eS 36
noncomputable abbrev MJ:Stmt:=eS 24
noncomputable abbrev VF:Stmt:=aM (eS 23) 12
noncomputable abbrev MK:Stmt:=aM (eS 35) 15
noncomputable abbrev VG:Stmt:=aM (eS 35) 16
noncomputable abbrev VH:Stmt:=aM (eS 35) 17
noncomputable abbrev ML:Stmt:=aM (eS 23) 3
noncomputable abbrev VI:Stmt:=aM (eS 35) 18
noncomputable abbrev VJ:Stmt:=aM (eS 35) 19
noncomputable abbrev VL:Stmt:=eS 47
noncomputable abbrev VM:Stmt:=eS 48
noncomputable abbrev aaX:Stmt:=aM (eS 38) 0
noncomputable abbrev ahQ:Stmt:=aM (eS 38) 1
noncomputable abbrev VN:Stmt:=aM (eS 35) 25
noncomputable abbrev VO:Stmt:=eS 49
noncomputable abbrev ahR:Stmt:=aM (eS 38) 3
noncomputable abbrev ahS:Stmt:=aM (eS 38) 2
noncomputable abbrev VP:Stmt:=eS 51
noncomputable abbrev ahT:Stmt:=aM (eS 38) 4
noncomputable abbrev ahU:Stmt:=aM (eS 38) 5
noncomputable abbrev ahV:Stmt:=aM (eS 38) 6
noncomputable abbrev ahW:Stmt:=aM (eS 38) 7
noncomputable abbrev ahX:Stmt:=aM (eS 38) 8
noncomputable abbrev VQ:Stmt:=eS 52
noncomputable abbrev dD:Stmt:=aM (eS 2) 0
structure AdF where
 A6:Addr
 A7:Addr
 A8:Addr
 A9:Addr
 A_:Addr
 Ba:Addr
 tL:Addr
 w_:Addr
 xg:Addr
 xh:Addr
 xj:Addr
 xm:Addr
 xo:Addr
 xq:Addr
 xr:Addr
 xu:Addr
 xw:Addr
 xx:Addr
 Bb:Addr
 Bc:Addr
 xy:Addr
 xA:Addr
 xB:Addr
 Bd:Addr
 xC:Addr
 xD:Addr
 xE:Addr
 xF:Addr
 Be:Addr
 Bf:Addr
 Bg:Addr
 Bh:Addr
 Bj:Addr
 Bk:Addr
 Bl:Addr
 xG:Addr
 DP:Addr
 xH:Addr
 Bm:Addr
 Bo:Addr
 xJ:Addr
 xK:Addr
 xM:Addr
 xN:Addr
 xO:Addr
 xP:Addr
 xQ:Addr
 xR:Addr
 xS:Addr
 Bp:Addr
 Bq:Addr
 xT:Addr
 xU:Addr
 xV:Addr
 xW:Addr
 xX:Addr
 xY:Addr
 xZ:Addr
 Br:Addr
 Bt:Addr
 DQ:Addr
 IA:Addr
 x_:Addr
 Bu:Addr
 IB:Addr
 IC:Addr
 Bv:Addr
 ID:Addr
 IE:Addr
 IG:Addr
 II:Addr
 IJ:Addr
 Bw:Addr
 tM:FuncData
 tN:FuncData
 tO:FuncData
 tP:FuncData
 tQ:FuncData
 tR:FuncData
 tS:FuncData
 tT:FuncData
 tU:FuncData
 tV:FuncData
 tW:FuncData
 tX:FuncData
 tY:FuncData
 tZ:FuncData
 t6:FuncData
 t7:FuncData
 t8:FuncData
 t9:FuncData
 t_:FuncData
 ua:FuncData
 uc:FuncData
 ud:FuncData
 ue:FuncData
 uf:FuncData
 ug:FuncData
 uh:FuncData
 um:FuncData
 uo:FuncData
 uq:FuncData
 ur:FuncData
 uv:FuncData
 uw:FuncData
 ux:FuncData
 uy:FuncData
 uz:FuncData
 uA:FuncData
 Bx:FuncData
 uB:FuncData
 uC:FuncData
 uD:FuncData
 uE:FuncData
 uF:FuncData
 uG:FuncData
 uH:FuncData
 uI:FuncData
 uJ:FuncData
 uK:FuncData
 uL:FuncData
 uM:FuncData
 uN:FuncData
 uO:FuncData
 uP:FuncData
 uQ:FuncData
 uR:FuncData
 uS:FuncData
 uU:FuncData
 uV:FuncData
 uW:FuncData
 uX:FuncData
 uY:FuncData
 BA:FuncData
 BB:FuncData
 uZ:FuncData
 u9:FuncData
 BC:FuncData
 BD:FuncData
 u_:FuncData
 BE:FuncData
 BF:FuncData
 BG:FuncData
 BH:FuncData
 BI:FuncData
 nM:FuncData
 aV:Addr
 bq:Addr
 dY:Addr
 jk:Tok
 zw:Tok
 iE:Tok
 iF:Tok
 mR:Tok
 iG:Tok
 jm:Tok
 kF:Tok
 mS:Tok
 FZ:Tok
 kG:Tok
 iH:Tok
 jn:Tok
 mT:Tok
structure Ad extends AdF where
 br:Addr
 bL:Addr
 bw:Addr
 dZ:FuncData
 iK:Tok
noncomputable def aB (a:Ad):Str->Addr:=λx=>if x="Innings" then a.aV else if x="Match" then a.bq else if x="Book" then a.dY else if x="NotLet" then a.bL else 0
noncomputable def er (a:Ad):List (Str×Addr×Addr):=[("NotLet",a.bL,a.bw)]
structure TxF (K:W.Frag) (mg:Str->Option Value) (a:AdF):Prop where
 ahY:mg "any"=none
 aaY:mg "dict"=none
 qI:mg "enumerate"=none
 jo:mg "len"=none
 vc:mg "list"=none
 ahZ:mg "min"=none
 oY:mg "range"=none
 DR:mg "reversed"=none
 ah0:mg "sum"=none
 BJ:mg "FOLLOW_AT"=some (.int 7 a.jk)
 aaZ:mg "FOUR"=some (.int 4 a.zw)
 zx:mg "INNINGS_AT"=some (.int 6 a.iE)
 zy:mg "IS_CROSSED"=some (.int 6 a.iF)
 IK:mg "IS_FAIR"=some (.int 4 a.mR)
 oZ:mg "LONG_MATCH"=some (.int 4 a.iG)
 BK:mg "NOBALL_AT"=some (.int 4 a.jm)
 DS:mg "OVERS_AT"=some (.int 1 a.kF)
 IM:mg "OVER_AT"=some (.int 0 a.mS)
 ah1:mg "SIX"=some (.int 6 a.FZ)
 DT:mg "SPELL_AT"=some (.int 2 a.kG)
 o4:mg "TEAM_COUNT"=some (.int 2 a.iH)
 BL:mg "TEAM_RUNS"=some (.int 0 a.jn)
 IP:mg "WIDE_AT"=some (.int 3 a.mT)
 VR:pU K mg "_law_folded" UX ["_law_script","_law_most"] a.A6 a.tM
 VS:pU K mg "_law_digit" UY ["_law_cell","_law_at","_law_many"] a.A7 a.tN
 vd:pU K mg "_law_draw" UZ ["_law_script","_law_k","_law_many"] a.A8 a.tO
 VT:pU K mg "_law_rules" U0 ["_law_script"] a.A9 a.tP
 VU:pU K mg "_law_teams" FY ["_law_script","_law_side"] a.A_ a.tQ
 MM:pU K mg "names_told" MD ["teams","word"] a.Ba a.tR
 BN:iC K a.bq "__init__" "Match.__init__" ME ["self","rules","teams"] a.tL a.tS
 jq:iC K a.bq "going" "Match.going" U1 ["self"] a.w_ a.tT
 BO:iC K a.bq "most_innings" "Match.most_innings" U3 ["self"] a.xg a.tU
 MN:iC K a.bq "total_of" "Match.total_of" MF ["self","side"] a.xh a.tV
 ya:iC K a.bq "lead_of" "Match.lead_of" U4 ["self","side"] a.xj a.tW
 BP:iC K a.bq "is_done" "Match.is_done" U7 ["self"] a.xm a.tX
 F1:iC K a.bq "result" "Match.result" U8 ["self"] a.xo a.tY
 F4:iC K a.bq "state" "Match.state" U9 ["self"] a.xq a.tZ
 F5:iC K a.bq "players" "Match.players" MG ["self"] a.xr a.t6
 F6:iC K a.bq "innings" "Match.innings" U_ ["self"] a.xu a.t7
 F8:iC K a.bq "next_side" "Match.next_side" Va ["self"] a.xw a.t8
 F9:iC K a.bq "turn" "Match.turn" Vb ["self"] a.xx a.t9
 VW:pU K mg "_law_ball" Vc ["_law_script","_law_k","_law_state"] a.Bb a.t_
 VX:pU K mg "_law_entry" MH ["_law_script","_law_k","_law_teams_here","_law_match"] a.Bc a.ua
 F_:iC K a.bq "side_to_start" "Match.side_to_start" Vd ["self","team"] a.xy a.uc
 MO:iC K a.bq "start_refusal" "Match.start_refusal" Ve ["self","entry"] a.xA a.ud
 qJ:iC K a.aV "stands" "Innings.stands" Vf ["self","name"] a.xB a.ue
 VY:pU K mg "swap_refusal_within" Vg ["innings","old"] a.Bd a.uf
 MP:iC K a.bq "swap_refusal" "Match.swap_refusal" Vh ["self","old","new"] a.xC a.ug
 MQ:iC K a.bq "may_follow" "Match.may_follow" Vi ["self"] a.xD a.uh
 MR:iC K a.bq "follow_refusal" "Match.follow_refusal" Vj ["self"] a.xE a.um
 BQ:iC K a.aV "has_gap" "Innings.has_gap" Vk ["self"] a.xF a.uo
 VZ:pU K mg "rope_goes" Vl ["kind","runs"] a.Be a.uq
 V0:pU K mg "way_goes" Vm ["kind","runs","rope","way"] a.Bf a.ur
 V1:pU K mg "ball_fault" Vn ["entry"] a.Bg a.uv
 V2:pU K mg "ball_refusal" Vo ["innings","entry"] a.Bh a.uw
 V3:pU K mg "in_refusal" Vp ["innings","batting","name"] a.Bj a.ux
 V4:pU K mg "bowl_refusal" Vq ["innings","fielding","spell","name"] a.Bk a.uy
 V5:pU K mg "refusal_within" Vr ["innings","rules","batting","fielding","entry"] a.Bl a.uz
 MS:iC K a.bq "refusal" "Match.refusal" Vs ["self","entry"] a.xG a.uA
 ah2:iC K a.aV "__init__" "Innings.__init__" ahP ["self","side","facing","other","bowler"] a.DP a.Bx
 MT:iC K a.bq "begin" "Match.begin" Vt ["self","entry"] a.xH a.uB
 V6:pU K mg "runs_by" Vu ["rules","kind","runs"] a.Bm a.uC
 V7:pU K mg "ball_sums" Vv ["rules","entry"] a.Bo a.uD
 MU:iC K a.aV "out_by" "Innings.out_by" Vw ["self","entry"] a.xJ a.uE
 BR:iC K a.aV "change_ends" "Innings.change_ends" Vx ["self"] a.xK a.uF
 Ga:iC K a.aV "leave" "Innings.leave" Vy ["self","name"] a.xM a.uG
 MV:iC K a.aV "fall" "Innings.fall" Vz ["self","name","end"] a.xN a.uH
 MW:iC K a.aV "count_fair" "Innings.count_fair" VA ["self","over"] a.xO a.uI
 MX:iC K a.aV "play" "Innings.play" VB ["self","rules","entry"] a.xP a.uJ
 MY:iC K a.bq "play_ball" "Match.play_ball" VC ["self","entry"] a.xQ a.uK
 MZ:iC K a.aV "come_in" "Innings.come_in" VD ["self","name"] a.xR a.uL
 M0:iC K a.aV "bowl_next" "Innings.bowl_next" VE ["self","name"] a.xS a.uM
 V8:pU K mg "swapped" MI ["players","old","new"] a.Bp a.uN
 V9:pU K mg "renamed" MJ ["told","old","new"] a.Bq a.uO
 M3:iC K a.aV "rename" "Innings.rename" VF ["self","old","new"] a.xT a.uP
 M4:iC K a.bq "swap_player" "Match.swap_player" MK ["self","old","new"] a.xU a.uQ
 M5:iC K a.bq "close" "Match.close" VG ["self"] a.xV a.uR
 M6:iC K a.bq "do" "Match.do" VH ["self","entry"] a.xW a.uS
 M7:iC K a.aV "has_left" "Innings.has_left" ML ["self","players"] a.xX a.uU
 M8:iC K a.bq "ending_due" "Match.ending_due" VI ["self","going"] a.xY a.uV
 yb:iC K a.bq "tell" "Match.tell" VJ ["self","entry"] a.xZ a.uW
 V_:pU K mg "_law_lets" VL ["_law_match","_law_entry_here"] a.Br a.uX
 Wa:pU K mg "_law_entries" VM ["_law_script","_law_rules_here","_law_teams_here","_law_many"] a.Bt a.uY
 ah3:iC K a.dY "__init__" "Book.__init__" aaX ["self","rules","teams"] a.DQ a.BA
 aa0:iC K a.dY "tell" "Book.tell" ahQ ["self","entry"] a.IA a.BB
 M9:iC K a.bq "log" "Match.log" VN ["self"] a.x_ a.uZ
 Wb:pU K mg "_law_seen" VO ["_law_match"] a.Bu a.u9
 aa1:iC K a.dY "match" "Book.match" ahR ["self"] a.IB a.BC
 aa2:iC K a.dY "entries" "Book.entries" ahS ["self"] a.IC a.BD
 Wc:pU K mg "_law_other" VP ["_law_cells","_law_k","_law_teams_here","_law_entry_here"] a.Bv a.u_
 M_:iC K a.dY "need_number" "Book.need_number" ahT ["self","number","count"] a.ID a.BE
 Na:iC K a.dY "retell" "Book.retell" ahU ["self","entries"] a.IE a.BF
 aa3:iC K a.dY "put_right" "Book.put_right" ahV ["self","number","entry"] a.IG a.BG
 aa4:iC K a.dY "put_in" "Book.put_in" ahW ["self","number","entry"] a.II a.BH
 aa5:iC K a.dY "take_out" "Book.take_out" ahX ["self","number"] a.IJ a.BI
 Nb:pU K mg "law" VQ ["_law_script"] a.Bw a.nM
 cG:LZ K mg "Innings" a.aV a.DP
 ah4:bV K a.aV "side"
 ah5:bV K a.aV "facing"
 ah6:bV K a.aV "other"
 ah7:bV K a.aV "bowler"
 ah8:bV K a.aV "ahead"
 ah9:bV K a.aV "total"
 aia:bV K a.aV "wickets"
 aib:bV K a.aV "overs"
 aic:bV K a.aV "balls"
 aid:bV K a.aV "ending"
 aa6:bV K a.aV "outs"
 aa7:bV K a.aV "spells"
 gR:LZ K mg "Match" a.bq a.tL
 aie:bV K a.bq "rules"
 aif:bV K a.bq "sides"
 aih:bV K a.bq "known"
 aii:bV K a.bq "played"
 aij:bV K a.bq "followed"
 aik:bV K a.bq "closed"
 ail:bV K a.bq "balls_told"
 nN:LZ K mg "Book" a.dY a.DQ
 aim:bV K a.dY "rules"
 ain:bV K a.dY "teams"
 aio:bV K a.dY "kept"
 aip:bV K a.dY "current"
structure Txt (K:W.Frag) (mg:Str->Option Value) (a:Ad):Prop extends TxF K mg a.toAdF where
 Er:aam K mg a.br (er a)
 fF:EC K mg a.br "NotLet" a.bL a.bw dD a.dZ ["self","words","rule","number"]
 yc:eB K a.dZ ["self","words","rule","number"] [.int 0 a.iK]
 iX:W.findIn K (.ref a.bL) "rule"=some none
 jN:W.findIn K (.ref a.bL) "number"=some none
 IQ:a.bL≠a.br
theorem fm {K:W.Frag}{cl:Str->Addr}{E:XK}{x f:Str}{C:Addr}(e:cl x=C)(h:vE K C)(n:bV K C f):dH ⟨K,cl,E⟩ [x] f:=λc hc=>by
 cases zaw.mp hc
 subst e;exact⟨h,n⟩
theorem eU {N P:List Str}{sc:Scope}(h:autoParam (sc.kind = .function/\sc.isCoroutine=false/\sc.isGenerator=false/\N.take P.length=P) zp_9)(d:N.Nodup/\(∀x∈P,sc.names.lookup x=some .local\/sc.names.lookup x=some .cell)/\∀y∈sc.names,y.2 ≠ .free:=by decide +kernel):aq N P sc:=⟨h.1,h.2.1,h.2.2.1,d.1,h.2.2.2,d.2.1,d.2.2⟩
section
variable {P:Program}{w:World}{K:W.Frag}{mg:Str->Option Value}{base:Heap}{a:Ad}{E:XK}
theorem aW:aB a "Innings"=a.aV:=by unfold aB;rw[if_pos rfl]
theorem bf (T:Txt K mg a):vE K (aB a "Innings"):=by rw[aW];exact T.cG.c
theorem DU (T:Txt K mg a):Mk K (aB a "Innings") a.DP:=by rw[aW];exact T.cG.k
theorem BS (T:Txt K mg a):mg "Innings"=some (.ref (aB a "Innings")):=by rw[aW];exact T.cG.m
theorem kH (T:Txt K mg a):dH ⟨K,aB a,E⟩ ["Innings"] "side" := fm aW T.cG.c T.ah4
theorem ia (T:Txt K mg a):dH ⟨K,aB a,E⟩ ["Innings"] "facing" := fm aW T.cG.c T.ah5
theorem l8 (T:Txt K mg a):dH ⟨K,aB a,E⟩ ["Innings"] "other" := fm aW T.cG.c T.ah6
theorem kI (T:Txt K mg a):dH ⟨K,aB a,E⟩ ["Innings"] "bowler" := fm aW T.cG.c T.ah7
theorem ve (T:Txt K mg a):dH ⟨K,aB a,E⟩ ["Innings"] "ahead" := fm aW T.cG.c T.ah8
theorem vf (T:Txt K mg a):dH ⟨K,aB a,E⟩ ["Innings"] "total" := fm aW T.cG.c T.ah9
theorem zz (T:Txt K mg a):dH ⟨K,aB a,E⟩ ["Innings"] "wickets" := fm aW T.cG.c T.aia
theorem pY (T:Txt K mg a):dH ⟨K,aB a,E⟩ ["Innings"] "overs" := fm aW T.cG.c T.aib
theorem nO (T:Txt K mg a):dH ⟨K,aB a,E⟩ ["Innings"] "balls" := fm aW T.cG.c T.aic
theorem pZ (T:Txt K mg a):dH ⟨K,aB a,E⟩ ["Innings"] "ending" := fm aW T.cG.c T.aid
theorem mU (T:Txt K mg a):dH ⟨K,aB a,E⟩ ["Innings"] "outs" := fm aW T.cG.c T.aa6
theorem o5 (T:Txt K mg a):dH ⟨K,aB a,E⟩ ["Innings"] "spells" := fm aW T.cG.c T.aa7
theorem a_:aB a "Match"=a.bq:=by unfold aB;rw[if_neg (by decide)];rw[if_pos rfl]
theorem ay (T:Txt K mg a):vE K (aB a "Match"):=by rw[a_];exact T.gR.c
theorem o6 (T:Txt K mg a):Mk K (aB a "Match") a.tL:=by rw[a_];exact T.gR.k
theorem mV (T:Txt K mg a):mg "Match"=some (.ref (aB a "Match")):=by rw[a_];exact T.gR.m
theorem p_ (T:Txt K mg a):dH ⟨K,aB a,E⟩ ["Match"] "rules" := fm a_ T.gR.c T.aie
theorem gM (T:Txt K mg a):dH ⟨K,aB a,E⟩ ["Match"] "sides" := fm a_ T.gR.c T.aif
theorem DW (T:Txt K mg a):dH ⟨K,aB a,E⟩ ["Match"] "known" := fm a_ T.gR.c T.aih
theorem iY (T:Txt K mg a):dH ⟨K,aB a,E⟩ ["Match"] "played" := fm a_ T.gR.c T.aii
theorem zA (T:Txt K mg a):dH ⟨K,aB a,E⟩ ["Match"] "followed" := fm a_ T.gR.c T.aij
theorem zB (T:Txt K mg a):dH ⟨K,aB a,E⟩ ["Match"] "closed" := fm a_ T.gR.c T.aik
theorem DX (T:Txt K mg a):dH ⟨K,aB a,E⟩ ["Match"] "balls_told" := fm a_ T.gR.c T.ail
theorem d7:aB a "Book"=a.dY:=by unfold aB;rw[if_neg (by decide)];rw[if_neg (by decide)];rw[if_pos rfl]
theorem eF (T:Txt K mg a):vE K (aB a "Book"):=by rw[d7];exact T.nN.c
theorem Sg (T:Txt K mg a):Mk K (aB a "Book") a.DQ:=by rw[d7];exact T.nN.k
theorem Nc (T:Txt K mg a):mg "Book"=some (.ref (aB a "Book")):=by rw[d7];exact T.nN.m
theorem DY (T:Txt K mg a):dH ⟨K,aB a,E⟩ ["Book"] "rules" := fm d7 T.nN.c T.aim
theorem DZ (T:Txt K mg a):dH ⟨K,aB a,E⟩ ["Book"] "teams" := fm d7 T.nN.c T.ain
theorem l9 (T:Txt K mg a):dH ⟨K,aB a,E⟩ ["Book"] "kept" := fm d7 T.nN.c T.aio
theorem D0 (T:Txt K mg a):dH ⟨K,aB a,E⟩ ["Book"] "current" := fm d7 T.nN.c T.aip
theorem jO:aB a "NotLet"=a.bL:=by unfold aB;rw[if_neg (by decide)];rw[if_neg (by decide)];rw[if_neg (by decide)];rw[if_pos rfl]
theorem qa (T:Txt K mg a):oF K (aB a "NotLet") a.bw (.ref a.br::q_):=by rw[jO];exact T.fF.M
theorem D3 (T:Txt K mg a):mg "NotLet"=some (.ref (aB a "NotLet")):=by rw[jO];exact T.fF.m
theorem nP:aq ["self","words","rule","number"] ["self","words","rule","number"] (aj dD):=eU
theorem nQ (T:Txt K mg a):aN P w K mg base dM 1 a.bw a.dZ ["self","words","rule","number"] (UK (aB a "NotLet") 3 (gE2 "rule" "number")):=by
 rw[jO];refine T.fF.ok nP (λvs H Q E h=>?_) (λq eY A outer s H vs Q E hr h=>?_)
 ·obtain⟨b,xs,rfl,hl,_⟩:=h
  simp[hl]
 ·obtain⟨b,xs,rfl,hl,ha,k⟩:=h
  match xs,hl,k with
  |[x,y,z],_,k =>
   refine⟨_,rZ (EV (K4 T.Er.EB rfl T.Er.m (yz (pv 0) (yz (pv 1) Kh)))) (rZ (QC (pv 0) (pv 2)) (EU (QD (pv 0) (pv 3)))),?_⟩
   refine⟨_,rfl,_,rfl,b,_,_,_,none,x,rfl,ha,T.fF.M,?_⟩
   refine⟨_,rfl,_,rfl,b,_,_,_,rfl,ha,T.fF.M,T.iX,λd nd=>?_⟩
   have nda:d≠b:=(eX ha nd).symm
   refine⟨_,rfl,_,rfl,b,_,_,_,d,[(("rule" : Str),y)],rfl,az,by rw[au nda,az],(show 1<1000 by decide),T.fF.M,T.jN,?_⟩
   have e1:gn "number" z [(("rule" : Str),y)]=[(("rule" : Str),y),("number",z)]:=by
    show (if ("rule" : Str)="number" then _ else _)=_
    rw[if_neg (by decide +kernel)]
    rfl
   rw[e1];refine k d _ nd (by rw[au nda.symm,az]) az λb o eb nb=>?_
   have nbd:b≠d:=eX eb nd
   rw[au nbd,au nb,au nbd];exact eb
theorem BU (T:Txt K mg a):mg "NotLet"=some (.ref a.bL):=(T.Er.all _ (zaY (i:=0) (l:=er a) rfl)).1
theorem Gb (T:Txt K mg a):Mb ⟨K,aB a,E⟩ ["NotLet"] "rule" := by
 intro c hc;simp only[zao,zbe,or_false] at hc;rcases hc with rfl
 ·exact⟨⟨_,_,qa T⟩,by show W.findIn K (.ref (aB a "NotLet")) _=_;rw[jO];exact T.iX⟩
theorem yd (T:Txt K mg a):rE ⟨K,aB a,E⟩ a.bL ["NotLet"]:=by
 intro c hc;simp only[zao,zbe,or_false] at hc;rcases hc with rfl
 ·exact⟨_,_,qa T,by show (Value.ref (aB a "NotLet")::_).contains _=true;rw[jO];exact Mf⟩
theorem fY (T:Txt K mg a):cI K (aB a "Match") "going" a.w_:=by rw[a_];exact T.jq.M
theorem zC (T:Txt K mg a):cI K (aB a "Match") "most_innings" a.xg:=by rw[a_];exact T.BO.M
theorem Sh (T:Txt K mg a):cI K (aB a "Match") "total_of" a.xh:=by rw[a_];exact T.MN.M
theorem rF (T:Txt K mg a):cI K (aB a "Match") "lead_of" a.xj:=by rw[a_];exact T.ya.M
theorem zD (T:Txt K mg a):cI K (aB a "Match") "is_done" a.xm:=by rw[a_];exact T.BP.M
theorem Gd (T:Txt K mg a):cI K (aB a "Match") "result" a.xo:=by rw[a_];exact T.F1.M
theorem Ge (T:Txt K mg a):cI K (aB a "Match") "state" a.xq:=by rw[a_];exact T.F4.M
theorem Gf (T:Txt K mg a):cI K (aB a "Match") "players" a.xr:=by rw[a_];exact T.F5.M
theorem Gg (T:Txt K mg a):cI K (aB a "Match") "innings" a.xu:=by rw[a_];exact T.F6.M
theorem Gh (T:Txt K mg a):cI K (aB a "Match") "next_side" a.xw:=by rw[a_];exact T.F8.M
theorem Gi (T:Txt K mg a):cI K (aB a "Match") "turn" a.xx:=by rw[a_];exact T.F9.M
theorem Gj (T:Txt K mg a):cI K (aB a "Match") "side_to_start" a.xy:=by rw[a_];exact T.F_.M
theorem Si (T:Txt K mg a):cI K (aB a "Match") "start_refusal" a.xA:=by rw[a_];exact T.MO.M
theorem mW (T:Txt K mg a):cI K (aB a "Innings") "stands" a.xB:=by rw[aW];exact T.qJ.M
theorem Sj (T:Txt K mg a):cI K (aB a "Match") "swap_refusal" a.xC:=by rw[a_];exact T.MP.M
theorem Sk (T:Txt K mg a):cI K (aB a "Match") "may_follow" a.xD:=by rw[a_];exact T.MQ.M
theorem Sn (T:Txt K mg a):cI K (aB a "Match") "follow_refusal" a.xE:=by rw[a_];exact T.MR.M
theorem zE (T:Txt K mg a):cI K (aB a "Innings") "has_gap" a.xF:=by rw[aW];exact T.BQ.M
theorem So (T:Txt K mg a):cI K (aB a "Match") "refusal" a.xG:=by rw[a_];exact T.MS.M
theorem Sq (T:Txt K mg a):cI K (aB a "Match") "begin" a.xH:=by rw[a_];exact T.MT.M
theorem Ss (T:Txt K mg a):cI K (aB a "Innings") "out_by" a.xJ:=by rw[aW];exact T.MU.M
theorem zF (T:Txt K mg a):cI K (aB a "Innings") "change_ends" a.xK:=by rw[aW];exact T.BR.M
theorem Gk (T:Txt K mg a):cI K (aB a "Innings") "leave" a.xM:=by rw[aW];exact T.Ga.M
theorem Su (T:Txt K mg a):cI K (aB a "Innings") "fall" a.xN:=by rw[aW];exact T.MV.M
theorem Sv (T:Txt K mg a):cI K (aB a "Innings") "count_fair" a.xO:=by rw[aW];exact T.MW.M
theorem Sw (T:Txt K mg a):cI K (aB a "Innings") "play" a.xP:=by rw[aW];exact T.MX.M
theorem Sx (T:Txt K mg a):cI K (aB a "Match") "play_ball" a.xQ:=by rw[a_];exact T.MY.M
theorem Sy (T:Txt K mg a):cI K (aB a "Innings") "come_in" a.xR:=by rw[aW];exact T.MZ.M
theorem SA (T:Txt K mg a):cI K (aB a "Innings") "bowl_next" a.xS:=by rw[aW];exact T.M0.M
theorem SD (T:Txt K mg a):cI K (aB a "Innings") "rename" a.xT:=by rw[aW];exact T.M3.M
theorem SE (T:Txt K mg a):cI K (aB a "Match") "swap_player" a.xU:=by rw[a_];exact T.M4.M
theorem SG (T:Txt K mg a):cI K (aB a "Match") "close" a.xV:=by rw[a_];exact T.M5.M
theorem SH (T:Txt K mg a):cI K (aB a "Match") "do" a.xW:=by rw[a_];exact T.M6.M
theorem SJ (T:Txt K mg a):cI K (aB a "Innings") "has_left" a.xX:=by rw[aW];exact T.M7.M
theorem SK (T:Txt K mg a):cI K (aB a "Match") "ending_due" a.xY:=by rw[a_];exact T.M8.M
theorem rG (T:Txt K mg a):cI K (aB a "Match") "tell" a.xZ:=by rw[a_];exact T.yb.M
theorem aa8 (T:Txt K mg a):cI K (aB a "Book") "tell" a.IA:=by rw[d7];exact T.aa0.M
theorem SM (T:Txt K mg a):cI K (aB a "Match") "log" a.x_:=by rw[a_];exact T.M9.M
theorem aa9 (T:Txt K mg a):cI K (aB a "Book") "match" a.IB:=by rw[d7];exact T.aa1.M
theorem aba (T:Txt K mg a):cI K (aB a "Book") "entries" a.IC:=by rw[d7];exact T.aa2.M
theorem D4 (T:Txt K mg a):cI K (aB a "Book") "need_number" a.ID:=by rw[d7];exact T.M_.M
theorem D5 (T:Txt K mg a):cI K (aB a "Book") "retell" a.IE:=by rw[d7];exact T.Na.M
theorem abb (T:Txt K mg a):cI K (aB a "Book") "put_right" a.IG:=by rw[d7];exact T.aa3.M
theorem abc (T:Txt K mg a):cI K (aB a "Book") "put_in" a.II:=by rw[d7];exact T.aa4.M
theorem abd (T:Txt K mg a):cI K (aB a "Book") "take_out" a.IJ:=by rw[d7];exact T.aa5.M
end
local macro_rules
 | `(tactic|simp?[$x,*])=>`(tactic|simp only[↓bp,bx,simprocAttr,$x,*])
local macro_rules
 | `(tactic|exists $es,*)=>`(tactic|repeat' first|exact Zw _|exact Zx|exact Zy|exact ZI|refine QZ ?_ ?_|refine Rf ?_ ?_|refine ZW ?_|exact ZV|refine agu ?_ ?_|refine ZX ?_|refine agA ?_ ?_ ?_|refine amH _ (by assumption) ?_|refine kh (by first|exact agr|exact ags|exact Ig|exact Ih|exact agm|exact agn|exact agt|exact Fl) ?_ ?_ (CZ _)|refine ZK ?_|refine yT (by first|exact agp|exact agl|exact agk|exact agj|exact ago|exact aoK) ?_ ?_|refine Rg ?_|exact Zz|exact agd|refine ZL ?_|refine Q0 ?_|refine agv ?_ ?_ ?_|refine Q7 ?_|exact Q6|refine ZH ?_ ?_ ?_|refine pL (by first|exact agr|exact ags|exact Ig|exact Ih|exact agm|exact agn|exact agt|exact Fl) ?_ ?_ (CZ _)|refine ZE ?_ ?_|refine QX ?_|refine agf ?_ ?_|refine ZD ?_|refine ZF ?_|refine ZG ?_ ?_|refine agg ?_ ?_|refine Rk ?_|refine ZZ ?_ ?_|refine ZT ?_ ?_|refine LO ?_ ?_|exact Rc|exact Rm|refine Rn ?_|refine age agq ?_|refine ZC ?_ $[| refine $es]* | refine ZA ?_|refine Lx.t ?_)
section
variable {P:Program}{w:World}{K:W.Frag}{mg:Str->Option Value}{base:Heap}{a:Ad}
noncomputable abbrev Nd:List Str:=["_law_script","_law_most","_law_cells","_law_k","_law_cell"]
theorem zG:aq Nd ["_law_script","_law_most"] (aj UX):=eU
noncomputable def Gm:Fn:=kU (cV Nd (ao (aX 2 (nj ak))
   (ao (pT (mEn 0 (af (aa 0) ak)) (kT 2 (fL (bY 3) (fL (bY 4) qV)))
   (cO (mB (ai sW (aa 3) (aa 1)))
   (cQ (nJ CJ pQ (aa 2) (af (aa 4) ak)))
   (ZU (ai cL (ai nI (ai bG (aa 2) (ai nH (aa 3) (aa 1))) (mC (.int 31))) (aa 4)) (ZS (aa 2) (ai nH (aa 3) (aa 1))))))
   (aJ (aa 2)))))
theorem abe (T:Txt K mg a):aN P w K mg base dM 2 a.A6 a.tM ["_law_script","_law_most"] (dz K (aB a) 2 Gm):=
 aN.pure (aZ T.VR.F zG λ_ _ _ _ _ _=>(by have:=zG.nd;exists (ku zbq ?_ ?_ ?_),(FA T.qI ?_),(l7 (n:=2) ?_),(fU 3 zG.nd),(fU 4 zG.nd),(jx zaF zaT zaU jw gY ?_ ?_)))
noncomputable abbrev We:List Str:=["_law_cell","_law_at","_law_many","_law_k"]
theorem D6:aq We ["_law_cell","_law_at","_law_many"] (aj UY):=eU
noncomputable def Gn:Fn:=cV We (ao (pT (sZ (af (aa 1) ak)) (bY 3)
   (aX 0 (ai Q2 (aa 0) (mC (.int 60)))))
   (aJ (ai nH (aa 0) (aa 2))))
theorem abf (T:Txt K mg a):aN P w K mg base dM 2 a.A7 a.tN ["_law_cell","_law_at","_law_many"] (dz K (aB a) 3 Gn):=
 aZ T.VS.F D6 λ_ _ _ _ _ _=>(by have:=D6.nd;exists (ku zbq ?_ ?_ ?_),(oR T.oY ?_),(fU 3 D6.nd))
noncomputable abbrev Wf:List Str:=["_law_script","_law_k","_law_many","_law_cell","_law_number"]
theorem Nf:aq Wf ["_law_script","_law_k","_law_many"] (aj UZ):=eU
noncomputable def cN:Fn:=cV Wf (ao (aX 3 (mC (.int 0)))
   (ao (cO (mB (ai wI (b9 gm (af (aa 0) ak)) (mC (.int 0))))
   (aX 3 (ai bG (aa 0) (ai nH (aa 1) (b9 gm (af (aa 0) ak)))))
   aI)
   (ao (cO (mB (ai (cX false) (ai nH (b9 gm (af (aa 0) ak)) (mC (.int 2))) (mC (.int 1))))
   (aJ (gj 3 Gn (af (aa 3) (af (ai nH (ai Q2 (aa 1) (b9 gm (af (aa 0) ak))) (mC (.int 20))) (af (aa 2) ak)))))
   aI)
   (ao (aX 4 (ai nH (ai nI (ai cL (ai cL (ai nH (aa 3) (mC (.int 2147483647))) (ai nI (mC (.int 7)) (aa 1))) (mC (.int 3))) (ai cL (mC (.int 48271)) (ai nI (ai nI (mC (.int 1103)) (aa 1)) (aa 1)))) (mC (.int 2147483629))))
   (aJ (ai nH (ai Q2 (aa 4) (mC (.int 64))) (aa 2)))))))
theorem qb (T:Txt K mg a):aN P w K mg base dM 3 a.A8 a.tO ["_law_script","_law_k","_law_many"] (dz K (aB a) 3 cN):=
 aZ T.vd.F Nf λ_ _ _ _ _ _=>(by have:=Nf.nd;exists (cM ji T.jo zaO ?_),(di (abf T) T.VS ?_))
noncomputable abbrev Wg:List Str:=["_law_script","_law_over","_law_overs","_law_spell","_law_follow","_law_beside","_law_side","_law_turns"]
theorem Ng:aq Wg ["_law_script"] (aj U0):=eU
noncomputable def Gp:Fn:=cV Wg (ao (aX 1 (ai cL (mC (.int 1)) (gj 3 cN (af (aa 0) (af (mC (.int 900)) (af (mC (.int 3)) ak))))))
   (ao (aX 2 (ai bG (kj (af (mC (.int 0)) (af (mC (.int 1)) (af (mC (.int 2)) (af (mC (.int 3)) (af (mC (.int 4)) ak)))))) (gj 3 cN (af (aa 0) (af (mC (.int 901)) (af (mC (.int 5)) ak))))))
   (ao (aX 3 (ai bG (kj (af (mC (.int 0)) (af (mC (.int 0)) (af (mC (.int 1)) (af (mC (.int 2)) ak))))) (gj 3 cN (af (aa 0) (af (mC (.int 902)) (af (mC (.int 4)) ak))))))
   (ao (aX 4 (ai bG (kj (af (mC (.int 0)) (af (mC (.int 1)) (af (mC (.int 3)) (af (mC (.int 8)) ak))))) (gj 3 cN (af (aa 0) (af (mC (.int 903)) (af (mC (.int 4)) ak))))))
   (ao (aX 5 (c7 (af (gj 3 cN (af (aa 0) (af (mC (.int 904)) (af (mC (.int 3)) ak)))) (af (gj 3 cN (af (aa 0) (af (mC (.int 905)) (af (mC (.int 3)) ak)))) ak))))
   (ao (aX 6 (ai bG (kj (af (mC (.int 2)) (af (mC (.int 3)) (af (mC (.int 4)) (af (mC (.int 2)) (af (mC (.int 3)) (af (mC (.int 4)) (af (mC (.int 9)) (af (mC (.int 11)) ak))))))))) (gj 3 cN (af (aa 0) (af (mC (.int 906)) (af (mC (.int 8)) ak))))))
   (ao (aX 7 (ai cL (mC (.int 1)) (gj 3 cN (af (aa 0) (af (mC (.int 907)) (af (mC (.int 2)) ak))))))
   (aJ (c7 (af (aa 1) (af (aa 2) (af (aa 3) (af (ai bG (aa 5) (mC (.int 0))) (af (ai bG (aa 5) (mC (.int 1))) (af (aa 6) (af (aa 7) (af (aa 4) ak)))))))))))))))))
theorem abg (T:Txt K mg a):aN P w K mg base dM 4 a.A9 a.tP ["_law_script"] (dz K (aB a) 1 Gp):=
 aZ T.VT.F Ng λ_ _ _ _ _ _=>(by have:=Ng.nd;exists (di (qb T) T.vd ?_))
noncomputable abbrev Wh:List Str:=["_law_script","_law_side","_law_letters","_law_ahead","_law_behind","_law_first","_law_names","_law_others"]
theorem zH:aq Wh ["_law_script","_law_side"] (aj FY):=eU
noncomputable def Gq:Fn:=cV Wh (ao (aX 2 (mC (.str "bcdfghjkmnpqvwxz")))
   (ao (aX 3 (ai nI (mC (.str "zq")) (gj 3 cN (af (aa 0) (af (mC (.int 908)) (af (mC (.int 2)) ak))))))
   (ao (aX 4 (Fo qA (mC (.str "vzb")) gx (iU (gj 3 cN (af (aa 0) (af (mC (.int 909)) (af (mC (.int 4)) ak)))))))
   (ao (aX 5 (gj 3 cN (af (aa 0) (af (mC (.int 910)) (af (mC (.int 16)) ak)))))
   (ao (aX 6 (gi (sZ (af (mC (.int 16)) ak)) [4,3,2,5] 1 (bY 4) jj (ai cL (ai cL (aa 1) (ai bG (aa 2) (ai nH (ai cL (aa 3) (aa 4)) (mC (.int 16))))) (aa 0))))
   (ao (aX 7 (Fo qA (aa 6) (iU (mC (.int 6))) (iU (ai cL (mC (.int 6)) (aa 1)))))
   (ao (cO (mB (ai wI (aa 1) (mC (.int 4))))
   (aX 7 (gi (sY iL (Fo qA (aa 6) gx (iU (aa 1)))) [] 1 (bY 0) jj (ai cL (aa 0) (mC (.str "x")))))
   aI)
   (aJ (kj (af (c7 (af (ai bG (aa 6) (mC (.int 12))) (af (Fo qA (aa 6) gx (iU (aa 1))) ak))) (af (c7 (af (ai bG (aa 6) (mC (.int 13))) (af (aa 7) ak))) ak)))))))))))
theorem abh (T:Txt K mg a):aN P w K mg base dM 4 a.A_ a.tQ ["_law_script","_law_side"] (dz K (aB a) 2 Gq):=
 aZ T.VU.F zH λ_ _ _ _ _ _=>(by have:=zH.nd;exists (di (qb T) T.vd ?_),(ze (target:=.Name "_law_k" _) (i0:=6) (F:=["_law_behind","_law_ahead","_law_letters","_law_first"]) (T:=["_law_k"]) (fr:=[4,3,2,5]) (JQ FY (by decide +kernel)) ?_ (λ_ _ _ _ _=>?_) (λ_ _ _ _ _=>?_) (λ_ _ _ _ _=>?_) zH.nd rfl rfl rfl),(oR T.oY ?_),(fU 4 (show (["_law_behind","_law_ahead","_law_letters","_law_first","_law_k"]:List Str).Nodup by decide +kernel)),(ze (target:=.Name "_law_name" _) (i0:=7) (F:=[]) (T:=["_law_name"]) (fr:=[]) (JQ FY (by decide +kernel)) ?_ (λ_ _ _ _ _=>?_) (λ_ _ _ _ _=>?_) (λ_ _ _ _ _=>?_) zH.nd rfl rfl rfl),(fU 0 (show (["_law_name"]:List Str).Nodup by decide +kernel)))
noncomputable abbrev Wi:List Str:=["teams","word","names","name","players"]
theorem zI:aq Wi ["teams","word"] (aj MD):=eU
noncomputable def BV:Fn:=cV Wi (ao (cO (mB (ai (cX false) (aa 1) (mC (.str "team"))))
   (aJ (gi (sY iL (aa 0)) [] 2 (kT 2 (fL (bY 0) (fL (bY 1) qV))) jj (aa 0)))
   aI)
   (ao (aX 2 (nj ak))
   (ao (pT (sY iL (aa 0)) (kT 2 (fL (bY 3) (fL (bY 4) qV)))
   (cQ (nJ CJ Q_ (aa 2) (af (aa 4) ak))))
   (aJ (aa 2)))))
theorem Nh (T:Txt K mg a):aN P w K mg base dM 2 a.Ba a.tR ["teams","word"] (dz K (aB a) 2 BV):=
 aZ T.MM.F zI λ_ _ _ _ _ _=>(by have:=zI.nd;exists (iB (F:=[]) (T:=["name","players"]) (fr:=[]) (JQ MD (by decide +kernel)) ?_ (λ_ _ _ _ _=>?_) (λ_ _ _ _ _=>?_) (λ_ _ _ _ _=>?_)),(l7 (n:=2) ?_),(fU 0 (show (["name","players"]:List Str).Nodup by decide +kernel)),(fU 1 (show (["name","players"]:List Str).Nodup by decide +kernel)),(ku zbq ?_ ?_ ?_),(fU 3 zI.nd),(fU 4 zI.nd),(jx zaF PySem.F.slot_list_extend PySem.F.type_list_extend jw LN ?_ ?_))
noncomputable abbrev Wj:List Str:=["self","rules","teams"]
theorem Ni:aq Wj ["self","rules","teams"] (aj ME):=eU
noncomputable def vg:Fn:=cV Wj (ao (bQ ["Match"] "rules" (aa 0) (aa 1))
   (ao (bQ ["Match"] "sides" (aa 0) (gi (sY iL (aa 2)) [] 2 (kT 2 (fL (bY 0) (fL (bY 1) qV))) jj (c7 (af (aa 0) (af (b9 qC (af (aa 1) ak)) ak)))))
   (ao (bQ ["Match"] "known" (aa 0) (gj 2 BV (af (aa 2) (af (mC (.str "player")) ak))))
   (ao (bQ ["Match"] "played" (aa 0) (nj ak))
   (ao (bQ ["Match"] "followed" (aa 0) (mC (.bl false)))
   (ao (bQ ["Match"] "closed" (aa 0) (mC (.bl false)))
   (bQ ["Match"] "balls_told" (aa 0) (nj ak))))))))
theorem zJ (T:Txt K mg a):aN P w K mg base dM 3 a.tL a.tS ["self","rules","teams"] (dz K (aB a) 3 vg):=
 aZ T.BN.F Ni λ_ _ _ _ _ _=>(by have:=Ni.nd;exists (aR (p_ T) ?_ ?_),(aR (gM T) ?_ ?_),(iB (F:=[]) (T:=["name","players"]) (fr:=[]) (JQ ME (by decide +kernel)) ?_ (λ_ _ _ _ _=>?_) (λ_ _ _ _ _=>?_) (λ_ _ _ _ _=>?_)),(l7 (n:=2) ?_),(fU 0 (show (["name","players"]:List Str).Nodup by decide +kernel)),(fU 1 (show (["name","players"]:List Str).Nodup by decide +kernel)),(iJ sX T.vc zbJ ?_),(aR (DW T) ?_ ?_),(di (Nh T) T.MM ?_),(aR (iY T) ?_ ?_),(aR (zA T) ?_ ?_),(aR (zB T) ?_ ?_),(aR (DX T) ?_ ?_))
noncomputable abbrev Wk:List Str:=["self"]
theorem Nj:aq Wk ["self"] (aj U1):=eU
noncomputable def iZ:Fn:=cV Wk (ao (cO (JN (mB (ai (cX false) (b9 gm (af (aO ["Match"] "played" (aa 0)) ak)) (mC (.int 0)))) (mB (ai (cX true) (aO ["Innings"] "ending" (ai bG (aO ["Match"] "played" (aa 0)) (mUn Dy (mC (.int 1))))) (mC (.str "")))))
   (aJ (mC .bu))
   aI)
   (aJ (ai bG (aO ["Match"] "played" (aa 0)) (mUn Dy (mC (.int 1))))))
theorem ic (T:Txt K mg a):aN P w K mg base dM 2 a.w_ a.tT ["self"] (dz K (aB a) 1 iZ):=
 aZ T.jq.F Nj λ_ _ _ _ _ _=>(by have:=Nj.nd;exists (cM ji T.jo zaO ?_),(av (iY T) ?_),(av (pZ T) ?_))
noncomputable abbrev Wl:List Str:=["self"]
theorem Nk:aq Wl ["self"] (aj U3):=eU
noncomputable def vh:Fn:=cV Wl (aJ (ai nI (mC (.int 2)) (ai bG (aO ["Match"] "rules" (aa 0)) (mC (.int 6)))))
theorem D7 (T:Txt K mg a):aN P w K mg base dM 2 a.xg a.tU ["self"] (dz K (aB a) 1 vh):=
 aZ T.BO.F Nk λ_ _ _ _ _ _=>(by have:=Nk.nd;exists (cT T.o4),(av (p_ T) ?_),(cT T.zx))
noncomputable abbrev Wm:List Str:=["self","side"]
theorem Nl:aq Wm ["self","side"] (aj MF):=eU
noncomputable def BW:Fn:=kU (cV Wm (aJ (b9 Q8 (af (gi (sY iL (aO ["Match"] "played" (aa 0))) [1] 1 (bY 1) (mB (ai (cX false) (aO ["Innings"] "side" (aa 1)) (aa 0))) (aO ["Innings"] "total" (aa 1))) ak))))
theorem abi (T:Txt K mg a):aN P w K mg base dM 2 a.xh a.tV ["self","side"] (dz K (aB a) 2 BW):=
 aN.pure (aZ T.MN.F Nl λ_ _ _ _ _ _=>(by have:=Nl.nd;exists (cM agw T.ah0 PyProof.Rows.boot_sum ?_),(iB (F:=["side"]) (T:=["innings"]) (fr:=[1]) (JQ MF (by decide +kernel)) ?_ (λ_ _ _ _ _=>?_) (λ_ _ _ _ _=>?_) (λ_ _ _ _ _=>?_)),(av (iY T) ?_),(fU 1 (show (["side","innings"]:List Str).Nodup by decide +kernel)),(av (kH T) ?_),(av (vf T) ?_)))
noncomputable abbrev Wn:List Str:=["self","side"]
theorem Nm:aq Wn ["self","side"] (aj U4):=eU
noncomputable def vj:Fn:=cV Wn (aJ (ai dG (aF "Match" "total_of" 2 BW (aa 0) (af (aa 1) ak)) (aF "Match" "total_of" 2 BW (aa 0) (af (ai dG (mC (.int 1)) (aa 1)) ak))))
theorem zL (T:Txt K mg a):aN P w K mg base dM 3 a.xj a.tW ["self","side"] (dz K (aB a) 2 vj):=
 aZ T.ya.F Nm λ_ _ _ _ _ _=>(by have:=Nm.nd;exists (aY (ay T) (Sh T) (abi T) (by decide) T.MN.b aA ?_ ?_))
noncomputable abbrev Wo:List Str:=["self","count"]
theorem Nn:aq Wo ["self"] (aj U7):=eU
noncomputable def ye:Fn:=cV Wo (ao (cO (mB (aO ["Match"] "closed" (aa 0)))
   (aJ (mC (.bl true)))
   aI)
   (ao (cO (mB (ai (g9 true) (aF "Match" "going" 1 iZ (aa 0) ak) (mC .bu)))
   (aJ (mC (.bl false)))
   aI)
   (ao (aX 1 (b9 gm (af (aO ["Match"] "played" (aa 0)) ak)))
   (ao (cO (lB (mB (ai (cX false) (aa 1) (ai dG (mC (.int 4)) (mC (.int 1))))) (mB (ai (cX false) (aF "Match" "most_innings" 1 vh (aa 0) ak) (mC (.int 4)))))
   (aJ (ai sW (aF "Match" "lead_of" 2 vj (aa 0) (af (aO ["Innings"] "side" (ai bG (aO ["Match"] "played" (aa 0)) (mUn Dy (mC (.int 1))))) ak)) (mC (.int 0))))
   aI)
   (aJ (ai gGe (aa 1) (aF "Match" "most_innings" 1 vh (aa 0) ak)))))))
theorem D8 (T:Txt K mg a):aN P w K mg base dM 4 a.xm a.tX ["self"] (dz K (aB a) 1 ye):=
 aZ T.BP.F Nn λ_ _ _ _ _ _=>(by have:=Nn.nd;exists (av (zB T) ?_),(aK (ay T) (fY T) (ic T) (by decide) T.jq.b aA ?_),(cM ji T.jo zaO ?_),(av (iY T) ?_),(cT T.oZ),(aK (ay T) (zC T) (D7 T) (by decide) T.BO.b aA ?_),(aY (ay T) (rF T) (zL T) (by decide) T.ya.b aA ?_ ?_),(av (kH T) ?_))
noncomputable abbrev Wq:List Str:=["self","lead"]
theorem Np:aq Wq ["self"] (aj U8):=eU
noncomputable def BX:Fn:=kU (cV Wq (ao (cO (yU (mB (aF "Match" "is_done" 1 ye (aa 0) ak)))
   (aJ (mC .bu))
   aI)
   (ao (cO (mB (aO ["Match"] "closed" (aa 0)))
   (aJ (c7 (af (mC (.str "closed")) ak)))
   aI)
   (ao (aX 1 (aF "Match" "lead_of" 2 vj (aa 0) (af (mC (.int 0)) ak)))
   (ao (cO (mB (ai (cX false) (aa 1) (mC (.int 0))))
   (aJ (c7 (af (mC (.str "tie")) ak)))
   aI)
   (aJ (c7 (af (mC (.str "won")) (af (ai bG (ai bG (aO ["Match"] "sides" (aa 0)) (CI (mB (ai wI (aa 1) (mC (.int 0)))) (mC (.int 0)) (mC (.int 1)))) (mC (.int 0))) ak)))))))))
theorem Nq (T:Txt K mg a):aN P w K mg base dM 5 a.xo a.tY ["self"] (dz K (aB a) 1 BX):=
 aN.pure (aZ T.F1.F Np λ_ _ _ _ _ _=>(by have:=Np.nd;exists (aK (ay T) (zD T) (D8 T) (by decide) T.BP.b aA ?_),(av (zB T) ?_),(aY (ay T) (rF T) (zL T) (by decide) T.ya.b aA ?_ ?_),(av (gM T) ?_)))
noncomputable abbrev Wr:List Str:=["self","going","who"]
theorem Nr:aq Wr ["self"] (aj U9):=eU
noncomputable def BY:Fn:=kU (cV Wr (ao (aX 1 (aF "Match" "going" 1 iZ (aa 0) ak))
   (ao (cO (mB (ai (g9 false) (aa 1) (mC .bu)))
   (aJ (mC .bu))
   aI)
   (ao (aX 2 (c7 (af (ai bG (ai bG (aO ["Match"] "sides" (aa 0)) (aO ["Innings"] "side" (aa 1))) (mC (.int 0))) (af (aO ["Innings"] "facing" (aa 1)) (af (aO ["Innings"] "other" (aa 1)) (af (aO ["Innings"] "bowler" (aa 1)) ak))))))
   (aJ (ai cL (aa 2) (c7 (af (aO ["Innings"] "total" (aa 1)) (af (aO ["Innings"] "wickets" (aa 1)) (af (aO ["Innings"] "overs" (aa 1)) (af (aO ["Innings"] "balls" (aa 1)) ak)))))))))))
theorem Nt (T:Txt K mg a):aN P w K mg base dM 3 a.xq a.tZ ["self"] (dz K (aB a) 1 BY):=
 aN.pure (aZ T.F4.F Nr λ_ _ _ _ _ _=>(by have:=Nr.nd;exists (aK (ay T) (fY T) (ic T) (by decide) T.jq.b aA ?_),(av (gM T) ?_),(av (kH T) ?_),(av (ia T) ?_),(av (l8 T) ?_),(av (kI T) ?_),(av (vf T) ?_),(av (zz T) ?_),(av (pY T) ?_),(av (nO T) ?_)))
noncomputable abbrev Ws:List Str:=["self"]
theorem Nu:aq Ws ["self"] (aj MG):=eU
noncomputable def BZ:Fn:=cV Ws (aJ (gi (sY iL (aO ["Match"] "sides" (aa 0))) [] 2 (kT 2 (fL (bY 0) (fL (bY 1) qV))) jj (c7 (af (aa 0) (af (b9 qC (af (aa 1) ak)) ak)))))
theorem Nv (T:Txt K mg a):aN P w K mg base dM 2 a.xr a.t6 ["self"] (dz K (aB a) 1 BZ):=
 aZ T.F5.F Nu λ_ _ _ _ _ _=>(by have:=Nu.nd;exists (iB (F:=[]) (T:=["name","players"]) (fr:=[]) (JQ MG (by decide +kernel)) ?_ (λ_ _ _ _ _=>?_) (λ_ _ _ _ _=>?_) (λ_ _ _ _ _=>?_)),(av (gM T) ?_),(l7 (n:=2) ?_),(fU 0 (show (["name","players"]:List Str).Nodup by decide +kernel)),(fU 1 (show (["name","players"]:List Str).Nodup by decide +kernel)),(iJ sX T.vc zbJ ?_))
noncomputable abbrev Wt:List Str:=["self","told","one"]
theorem D9:aq Wt ["self"] (aj U_):=eU
noncomputable def B4:Fn:=kU (cV Wt (ao (aX 1 (nj ak))
   (ao (pT (sY iL (aO ["Match"] "played" (aa 0))) (bY 2)
   (cQ (nJ CJ pQ (aa 1) (af (c7 (af (ai bG (ai bG (aO ["Match"] "sides" (aa 0)) (aO ["Innings"] "side" (aa 2))) (mC (.int 0))) (af (aO ["Innings"] "total" (aa 2)) (af (aO ["Innings"] "wickets" (aa 2)) (af (aO ["Innings"] "overs" (aa 2)) (af (aO ["Innings"] "balls" (aa 2)) (af (aO ["Innings"] "ending" (aa 2)) ak))))))) ak))))
   (aJ (aa 1)))))
theorem Nx (T:Txt K mg a):aN P w K mg base dM 2 a.xu a.t7 ["self"] (dz K (aB a) 1 B4):=
 aN.pure (aZ T.F6.F D9 λ_ _ _ _ _ _=>(by have:=D9.nd;exists (ku zbq ?_ ?_ ?_),(av (iY T) ?_),(fU 2 D9.nd),(jx zaF zaT zaU jw gY ?_ ?_),(av (gM T) ?_),(av (kH T) ?_),(av (vf T) ?_),(av (zz T) ?_),(av (pY T) ?_),(av (nO T) ?_),(av (pZ T) ?_)))
noncomputable abbrev Wu:List Str:=["self","last"]
theorem Ny:aq Wu ["self"] (aj Va):=eU
noncomputable def B7:Fn:=cV Wu (ao (cO (JN (mB (ai (cX false) (b9 gm (af (aO ["Match"] "played" (aa 0)) ak)) (mC (.int 0)))) (JN (mB (ai (g9 true) (aF "Match" "going" 1 iZ (aa 0) ak) (mC .bu))) (mB (aF "Match" "is_done" 1 ye (aa 0) ak))))
   (aJ (mC .bu))
   aI)
   (ao (aX 1 (aO ["Innings"] "side" (ai bG (aO ["Match"] "played" (aa 0)) (mUn Dy (mC (.int 1))))))
   (ao (cO (lB (mB (aO ["Match"] "followed" (aa 0))) (mB (ai (cX false) (b9 gm (af (aO ["Match"] "played" (aa 0)) ak)) (mC (.int 2)))))
   (aJ (aa 1))
   aI)
   (aJ (ai dG (mC (.int 1)) (aa 1))))))
theorem Nz (T:Txt K mg a):aN P w K mg base dM 5 a.xw a.t8 ["self"] (dz K (aB a) 1 B7):=
 aZ T.F8.F Ny λ_ _ _ _ _ _=>(by have:=Ny.nd;exists (cM ji T.jo zaO ?_),(av (iY T) ?_),(aK (ay T) (fY T) (ic T) (by decide) T.jq.b aA ?_),(aK (ay T) (zD T) (D8 T) (by decide) T.BP.b aA ?_),(av (kH T) ?_),(av (zA T) ?_))
noncomputable abbrev Wv:List Str:=["self","side"]
theorem NC:aq Wv ["self"] (aj Vb):=eU
noncomputable def vm:Fn:=cV Wv (ao (aX 1 (aF "Match" "next_side" 1 B7 (aa 0) ak))
   (aJ (CI (mB (ai (g9 false) (aa 1) (mC .bu))) (mC (.str "")) (ai bG (ai bG (aO ["Match"] "sides" (aa 0)) (aa 1)) (mC (.int 0))))))
theorem ND (T:Txt K mg a):aN P w K mg base dM 6 a.xx a.t9 ["self"] (dz K (aB a) 1 vm):=
 aZ T.F9.F NC λ_ _ _ _ _ _=>(by have:=NC.nd;exists (aK (ay T) (Gh T) (Nz T) (by decide) T.F8.b aA ?_),(av (gM T) ?_))
noncomputable abbrev Ww:List Str:=["_law_script","_law_k","_law_state","_law_kind","_law_runs","_law_way","_law_who","_law_end","_law_out"]
theorem NF:aq Ww ["_law_script","_law_k","_law_state"] (aj Vc):=eU
noncomputable def Gr:Fn:=cV Ww (ao (aX 3 (ai bG (kj (af (mC (.str "bat")) (af (mC (.str "bat")) (af (mC (.str "bat")) (af (mC (.str "bye")) (af (mC (.str "leg")) (af (mC (.str "wide")) (af (mC (.str "no")) (af (mC (.str "nobye")) ak))))))))) (gj 3 cN (af (aa 0) (af (aa 1) (af (mC (.int 8)) ak))))))
   (ao (aX 4 (ai bG (kj (af (mC (.int 0)) (af (mC (.int 0)) (af (mC (.int 1)) (af (mC (.int 1)) (af (mC (.int 2)) (af (mC (.int 3)) (af (mC (.int 4)) (af (mC (.int 6)) ak))))))))) (gj 3 cN (af (aa 0) (af (ai cL (aa 1) (mC (.int 1))) (af (mC (.int 8)) ak))))))
   (ao (aX 5 (gj 3 cN (af (aa 0) (af (ai cL (aa 1) (mC (.int 2))) (af (mC (.int 9)) ak)))))
   (ao (cO (mB (ai (cX false) (aa 5) (mC (.int 0))))
   (ao (aX 6 (ai bG (kj (af (ai bG (aa 2) (mC (.int 1))) (af (ai bG (aa 2) (mC (.int 2))) ak))) (gj 3 cN (af (aa 0) (af (ai cL (aa 1) (mC (.int 3))) (af (mC (.int 2)) ak))))))
   (ao (aX 7 (ai bG (kj (af (mC (.str "strike")) (af (mC (.str "other")) ak))) (gj 3 cN (af (aa 0) (af (ai cL (aa 1) (mC (.int 4))) (af (mC (.int 2)) ak))))))
   (aJ (c7 (af (mC (.str "ball")) (af (aa 3) (af (aa 4) (af (mC (.bl false)) (af (mC (.str "run")) (af (aa 6) (af (aa 7) ak)))))))))))
   aI)
   (ao (cO (mB (ai sW (aa 5) (mC (.int 3))))
   (ao (aX 8 (ai bG (kj (af (mC (.str "bowled")) (af (mC (.str "caught")) (af (mC (.str "before")) (af (mC (.str "stumped")) (af (mC (.str "hit")) ak)))))) (gj 3 cN (af (aa 0) (af (ai cL (aa 1) (mC (.int 3))) (af (mC (.int 5)) ak))))))
   (aJ (c7 (af (mC (.str "ball")) (af (mC (.str "bat")) (af (mC (.int 0)) (af (mC (.bl false)) (af (aa 8) (af (mC (.str "")) (af (mC (.str "")) ak))))))))))
   aI)
   (aJ (c7 (af (mC (.str "ball")) (af (aa 3) (af (aa 4) (af (ai (cX false) (gj 3 cN (af (aa 0) (af (ai cL (aa 1) (mC (.int 3))) (af (mC (.int 4)) ak)))) (mC (.int 0))) (af (mC (.str "")) (af (mC (.str "")) (af (mC (.str "")) ak))))))))))))))
theorem abj (T:Txt K mg a):aN P w K mg base dM 4 a.Bb a.t_ ["_law_script","_law_k","_law_state"] (dz K (aB a) 3 Gr):=
 aZ T.VW.F NF λ_ _ _ _ _ _=>(by have:=NF.nd;exists (di (qb T) T.vd ?_))
noncomputable abbrev Wx:List Str:=["_law_script","_law_k","_law_teams_here","_law_match","_law_state","_law_now","_law_at","_law_order","_law_one","_law_fielders","_law_other_here","_law_fielder","_law_odd","_law_there","_law_players","_law_new"]
theorem D_:aq Wx ["_law_script","_law_k","_law_teams_here","_law_match"] (aj MH):=eU
noncomputable def B8:Fn:=cV Wx (ao (aX 4 (aF "Match" "state" 1 BY (aa 3) ak))
   (ao (aX 5 (aF "Match" "players" 1 BZ (aa 3) ak))
   (ao (cO (mB (ai (g9 false) (aa 4) (mC .bu)))
   (ao (cO (lB (mB (ai (cX false) (b9 gm (af (aF "Match" "innings" 1 B4 (aa 3) ak) ak)) (mC (.int 2)))) (mB (ai (cX false) (gj 3 cN (af (aa 0) (af (aa 1) (af (mC (.int 2)) ak)))) (mC (.int 0)))))
   (aJ (c7 (af (mC (.str "follow")) ak)))
   aI)
   (ao (aX 6 (gj 3 cN (af (aa 0) (af (ai cL (aa 1) (mC (.int 1))) (af (mC (.int 2)) ak)))))
   (ao (cO (mB (ai (cX true) (aF "Match" "turn" 1 vm (aa 3) ak) (mC (.str ""))))
   (aX 6 (nJ CJ pR (kj (af (ai bG (ai bG (aa 5) (mC (.int 0))) (mC (.int 0))) (af (ai bG (ai bG (aa 5) (mC (.int 1))) (mC (.int 0))) ak))) (af (aF "Match" "turn" 1 vm (aa 3) ak) ak)))
   aI)
   (ao (aX 7 (ai bG (ai bG (aa 5) (aa 6)) (mC (.int 1))))
   (ao (aX 8 (gj 3 cN (af (aa 0) (af (ai cL (aa 1) (mC (.int 2))) (af (b9 gm (af (aa 7) ak)) ak)))))
   (ao (aX 9 (ai bG (ai bG (aa 5) (ai dG (mC (.int 1)) (aa 6))) (mC (.int 1))))
   (ao (aX 10 (ai bG (aa 7) (ai nH (ai cL (aa 8) (mC (.int 1))) (b9 gm (af (aa 7) ak)))))
   (ao (aX 11 (ai bG (aa 9) (gj 3 cN (af (aa 0) (af (ai cL (aa 1) (mC (.int 3))) (af (b9 gm (af (aa 9) ak)) ak))))))
   (aJ (c7 (af (mC (.str "start")) (af (ai bG (ai bG (aa 5) (aa 6)) (mC (.int 0))) (af (ai bG (aa 7) (aa 8)) (af (aa 10) (af (aa 11) ak)))))))))))))))
   aI)
   (ao (aX 6 (nJ CJ pR (kj (af (ai bG (ai bG (aa 5) (mC (.int 0))) (mC (.int 0))) (af (ai bG (ai bG (aa 5) (mC (.int 1))) (mC (.int 0))) ak))) (af (ai bG (aa 4) (mC (.int 0))) ak)))
   (ao (aX 12 (gj 3 cN (af (aa 0) (af (ai cL (aa 1) (mC (.int 4))) (af (mC (.int 40)) ak)))))
   (ao (cO (mB (ai (cX false) (aa 12) (mC (.int 0))))
   (aJ (c7 (af (mC (.str "declare")) ak)))
   aI)
   (ao (aX 13 (gi (sY iT (Fo qA (aa 4) (iU (mC (.int 1))) (iU (mC (.int 3))))) [] 1 (bY 0) (mB (ai (cX true) (aa 0) (mC (.str "")))) (aa 0)))
   (ao (cO (lB (mB (ai (cX false) (aa 12) (mC (.int 1)))) (mB (ai (A3 true) (aa 13) (kj ak))))
   (aJ (c7 (af (mC (.str "hurt")) (af (ai bG (aa 13) (ai nH (gj 3 cN (af (aa 0) (af (ai cL (aa 1) (mC (.int 5))) (af (mC (.int 2)) ak)))) (b9 gm (af (aa 13) ak)))) ak))))
   aI)
   (ao (cO (mB (ai (cX false) (aa 12) (mC (.int 2))))
   (ao (aX 14 (ai cL (ai bG (ai bG (aa 5) (mC (.int 0))) (mC (.int 1))) (ai bG (ai bG (aa 5) (mC (.int 1))) (mC (.int 1)))))
   (ao (aX 15 (ai cL (mC (.str "sw")) (ai bG (mC (.str "abcdefgh")) (gj 3 cN (af (aa 0) (af (ai cL (aa 1) (mC (.int 6))) (af (mC (.int 8)) ak)))))))
   (aJ (c7 (af (mC (.str "swap")) (af (ai bG (aa 14) (gj 3 cN (af (aa 0) (af (ai cL (aa 1) (mC (.int 5))) (af (b9 gm (af (aa 14) ak)) ak))))) (af (aa 15) ak)))))))
   aI)
   (ao (cO (JN (mB (ai (cX false) (ai bG (aa 4) (mC (.int 1))) (mC (.str "")))) (mB (ai (cX false) (ai bG (aa 4) (mC (.int 2))) (mC (.str "")))))
   (aJ (c7 (af (mC (.str "in")) (af (ai bG (ai bG (ai bG (aa 5) (aa 6)) (mC (.int 1))) (gj 3 cN (af (aa 0) (af (ai cL (aa 1) (mC (.int 5))) (af (b9 gm (af (ai bG (ai bG (aa 5) (aa 6)) (mC (.int 1))) ak)) ak))))) ak))))
   aI)
   (ao (cO (mB (ai (cX false) (ai bG (aa 4) (mC (.int 3))) (mC (.str ""))))
   (aJ (c7 (af (mC (.str "bowl")) (af (ai bG (ai bG (ai bG (aa 5) (ai dG (mC (.int 1)) (aa 6))) (mC (.int 1))) (gj 3 cN (af (aa 0) (af (ai cL (aa 1) (mC (.int 5))) (af (b9 gm (af (ai bG (ai bG (aa 5) (ai dG (mC (.int 1)) (aa 6))) (mC (.int 1))) ak)) ak))))) ak))))
   aI)
   (aJ (gj 3 Gr (af (aa 0) (af (ai cL (aa 1) (mC (.int 5))) (af (aa 4) ak))))))))))))))))
theorem abk (T:Txt K mg a):aN P w K mg base dM 7 a.Bc a.ua ["_law_script","_law_k","_law_teams_here","_law_match"] (dz K (aB a) 4 B8):=
 aZ T.VX.F D_ λ_ _ _ _ _ _=>(by have:=D_.nd;exists (aK (ay T) (Ge T) (Nt T) (by decide) T.F4.b aA ?_),(aK (ay T) (Gf T) (Nv T) (by decide) T.F5.b aA ?_),(cM ji T.jo zaO ?_),(aK (ay T) (Gg T) (Nx T) (by decide) T.F6.b aA ?_),(di (qb T) T.vd ?_),(aK (ay T) (Gi T) (ND T) (by decide) T.F9.b aA ?_),(jx zaF PySem.F.slot_list_index PySem.F.type_list_index jw Ra ?_ ?_),(ze (i0:=13) (F:=[]) (T:=["_law_name"]) (fr:=[]) (JQ MH (by decide +kernel)) ?_ (λ_ _ _ _ _=>?_) (λ_ _ _ _ _=>?_) (λ_ _ _ _ _=>?_) D_.nd rfl rfl rfl),(Z0 ?_),(fU 0 (show (["_law_name"]:List Str).Nodup by decide +kernel)),(kh ahl ?_ ?_ (CZ _)),(di (abj T) T.VW ?_))
noncomputable abbrev Wy:List Str:=["self","team","side"]
theorem Ea:aq Wy ["self","team"] (aj Vd):=eU
noncomputable def B9:Fn:=cV Wy (ao (pT (sZ (af (mC (.int 2)) ak)) (bY 2)
   (cO (lB (mB (ai (cX false) (ai bG (ai bG (aO ["Match"] "sides" (aa 0)) (aa 2)) (mC (.int 0))) (aa 1))) (JN (mB (ai (cX false) (b9 gm (af (aO ["Match"] "played" (aa 0)) ak)) (mC (.int 0)))) (mB (ai (cX false) (aa 2) (aF "Match" "next_side" 1 B7 (aa 0) ak)))))
   (aJ (aa 2))
   aI))
   (aJ (mC .bu)))
theorem NG (T:Txt K mg a):aN P w K mg base dM 6 a.xy a.uc ["self","team"] (dz K (aB a) 2 B9):=
 aZ T.F_.F Ea λ_ _ _ _ _ _=>(by have:=Ea.nd;exists (ku zbq ?_ ?_ ?_),(oR T.oY ?_),(cT T.o4),(fU 2 Ea.nd),(av (gM T) ?_),(cM ji T.jo zaO ?_),(av (iY T) ?_),(aK (ay T) (Gh T) (Nz T) (by decide) T.F8.b aA ?_))
noncomputable abbrev Wz:List Str:=["self","entry","side","batting","fielding"]
theorem NH:aq Wz ["self","entry"] (aj Ve):=eU
noncomputable def Gs:Fn:=cV Wz (ao (cO (mB (ai (g9 true) (aF "Match" "going" 1 iZ (aa 0) ak) (mC .bu)))
   (aJ (mC (.str "going")))
   aI)
   (ao (aX 2 (aF "Match" "side_to_start" 2 B9 (aa 0) (af (ai bG (aa 1) (mC (.int 1))) ak)))
   (ao (cO (mB (ai (g9 false) (aa 2) (mC .bu)))
   (aJ (mC (.str "turn")))
   aI)
   (ao (aX 3 (ai bG (ai bG (aO ["Match"] "sides" (aa 0)) (aa 2)) (mC (.int 1))))
   (ao (aX 4 (ai bG (ai bG (aO ["Match"] "sides" (aa 0)) (ai dG (mC (.int 1)) (aa 2))) (mC (.int 1))))
   (ao (cO (JN (mB (ai (yZ true) (ai bG (aa 1) (mC (.int 2))) (aa 3))) (JN (mB (ai (yZ true) (ai bG (aa 1) (mC (.int 3))) (aa 3))) (mB (ai (yZ true) (ai bG (aa 1) (mC (.int 4))) (aa 4)))))
   (aJ (mC (.str "team")))
   aI)
   (aJ (CI (mB (ai (cX false) (ai bG (aa 1) (mC (.int 2))) (ai bG (aa 1) (mC (.int 3))))) (mC (.str "alike")) (mC .bu)))))))))
theorem abl (T:Txt K mg a):aN P w K mg base dM 7 a.xA a.ud ["self","entry"] (dz K (aB a) 2 Gs):=
 aZ T.MO.F NH λ_ _ _ _ _ _=>(by have:=NH.nd;exists (aK (ay T) (fY T) (ic T) (by decide) T.jq.b aA ?_),(aY (ay T) (Gj T) (NG T) (by decide) T.F_.b aA ?_ ?_),(av (gM T) ?_),(kh AU ?_ ?_ (by with_unfolding_all rfl)))
noncomputable abbrev WA:List Str:=["self","name"]
theorem NI:aq WA ["self","name"] (aj Vf):=eU
noncomputable def o7:Fn:=cV WA (aJ (ai (yZ false) (aa 1) (c7 (af (aO ["Innings"] "facing" (aa 0)) (af (aO ["Innings"] "other" (aa 0)) ak)))))
theorem qc (T:Txt K mg a):aN P w K mg base dM 2 a.xB a.ue ["self","name"] (dz K (aB a) 2 o7):=
 aZ T.qJ.F NI λ_ _ _ _ _ _=>(by have:=NI.nd;exists (pL DB ?_ ?_ (by with_unfolding_all rfl)),(av (ia T) ?_),(av (l8 T) ?_))
noncomputable abbrev WB:List Str:=["innings","old"]
theorem NJ:aq WB ["innings","old"] (aj Vg):=eU
noncomputable def Gu:Fn:=cV WB (aJ (CI (JN (mB (aF "Innings" "stands" 2 o7 (aa 0) (af (aa 1) ak))) (mB (ai (cX false) (aa 1) (aO ["Innings"] "bowler" (aa 0))))) (mC (.str "there")) (mC .bu)))
theorem abm (T:Txt K mg a):aN P w K mg base dM 3 a.Bd a.uf ["innings","old"] (dz K (aB a) 2 Gu):=
 aZ T.VY.F NJ λ_ _ _ _ _ _=>(by have:=NJ.nd;exists (aY (bf T) (mW T) (qc T) (by decide) T.qJ.b aA ?_ ?_),(av (kI T) ?_))
noncomputable abbrev WC:List Str:=["self","old","new","going"]
theorem NK:aq WC ["self","old","new"] (aj Vh):=eU
noncomputable def Gv:Fn:=cV WC (ao (cO (mB (ai (yZ true) (aa 1) (gj 2 BV (af (aO ["Match"] "sides" (aa 0)) (af (mC (.str "player")) ak)))))
   (aJ (mC (.str "team")))
   aI)
   (ao (cO (mB (ai (yZ false) (aa 2) (aO ["Match"] "known" (aa 0))))
   (aJ (mC (.str "name")))
   aI)
   (ao (aX 3 (aF "Match" "going" 1 iZ (aa 0) ak))
   (aJ (CI (mB (ai (g9 false) (aa 3) (mC .bu))) (mC .bu) (gj 2 Gu (af (aa 3) (af (aa 1) ak))))))))
theorem abn (T:Txt K mg a):aN P w K mg base dM 4 a.xC a.ug ["self","old","new"] (dz K (aB a) 3 Gv):=
 aZ T.MP.F NK λ_ _ _ _ _ _=>(by have:=NK.nd;exists (kh AU ?_ ?_ (by with_unfolding_all rfl)),(di (Nh T) T.MM ?_),(av (gM T) ?_),(kh DB ?_ ?_ (by with_unfolding_all rfl)),(av (DW T) ?_),(aK (ay T) (fY T) (ic T) (by decide) T.jq.b aA ?_),(di (abm T) T.VY ?_))
noncomputable abbrev WD:List Str:=["self"]
theorem NL:aq WD ["self"] (aj Vi):=eU
noncomputable def Gw:Fn:=cV WD (ao (cO (JN (mB (ai (cX true) (b9 gm (af (aO ["Match"] "played" (aa 0)) ak)) (mC (.int 2)))) (JN (mB (ai (cX true) (aF "Match" "most_innings" 1 vh (aa 0) ak) (mC (.int 4)))) (mB (aO ["Match"] "followed" (aa 0)))))
   (aJ (mC (.bl false)))
   aI)
   (aJ (kg sW UC (mC (.int 0)) (ai bG (aO ["Match"] "rules" (aa 0)) (mC (.int 7))) (aF "Match" "lead_of" 2 vj (aa 0) (af (aO ["Innings"] "side" (ai bG (aO ["Match"] "played" (aa 0)) (mC (.int 0)))) ak)))))
theorem abo (T:Txt K mg a):aN P w K mg base dM 4 a.xD a.uh ["self"] (dz K (aB a) 1 Gw):=
 aZ T.MQ.F NL λ_ _ _ _ _ _=>(by have:=NL.nd;exists (cM ji T.jo zaO ?_),(av (iY T) ?_),(aK (ay T) (zC T) (D7 T) (by decide) T.BO.b aA ?_),(cT T.oZ),(av (zA T) ?_),(LC Ig Ih ?_ ?_ ?_),(av (p_ T) ?_),(cT T.BJ),(aY (ay T) (rF T) (zL T) (by decide) T.ya.b aA ?_ ?_),(av (kH T) ?_))
noncomputable abbrev WE:List Str:=["self"]
theorem NO:aq WE ["self"] (aj Vj):=eU
noncomputable def Gy:Fn:=cV WE (ao (cO (mB (ai (g9 true) (aF "Match" "going" 1 iZ (aa 0) ak) (mC .bu)))
   (aJ (mC (.str "going")))
   aI)
   (aJ (CI (mB (aF "Match" "may_follow" 1 Gw (aa 0) ak)) (mC .bu) (mC (.str "follow")))))
theorem abp (T:Txt K mg a):aN P w K mg base dM 5 a.xE a.um ["self"] (dz K (aB a) 1 Gy):=
 aZ T.MR.F NO λ_ _ _ _ _ _=>(by have:=NO.nd;exists (aK (ay T) (fY T) (ic T) (by decide) T.jq.b aA ?_),(aK (ay T) (Sk T) (abo T) (by decide) T.MQ.b aA ?_))
noncomputable abbrev WG:List Str:=["self"]
theorem NP:aq WG ["self"] (aj Vk):=eU
noncomputable def yf:Fn:=cV WG (aJ (aF "Innings" "stands" 2 o7 (aa 0) (af (mC (.str "")) ak)))
theorem Eb (T:Txt K mg a):aN P w K mg base dM 3 a.xF a.uo ["self"] (dz K (aB a) 1 yf):=
 aZ T.BQ.F NP λ_ _ _ _ _ _=>(by have:=NP.nd;exists (aY (bf T) (mW T) (qc T) (by decide) T.qJ.b aA ?_ ?_))
noncomputable abbrev WH:List Str:=["kind","runs"]
theorem NQ:aq WH ["kind","runs"] (aj Vl):=eU
noncomputable def Gz:Fn:=cV WH (aJ (mOr (ai (cX false) (aa 1) (mC (.int 4))) (Ie (ai (cX false) (aa 1) (mC (.int 6))) (ai (yZ false) (aa 0) (c7 (af (mC (.str "bat")) (af (mC (.str "no")) ak)))))))
theorem abq (T:Txt K mg a):aN P w K mg base dM 2 a.Be a.uq ["kind","runs"] (dz K (aB a) 2 Gz):=
 aZ T.VZ.F NQ λ_ _ _ _ _ _=>(by have:=NQ.nd;exists (cT T.aaZ),(cT T.ah1),(pL DB ?_ ?_ (by with_unfolding_all rfl)))
noncomputable abbrev WI:List Str:=["kind","runs","rope","way"]
theorem NR:aq WI ["kind","runs","rope","way"] (aj Vm):=eU
noncomputable def GA:Fn:=cV WI (ao (cO (mB (ai (cX false) (aa 3) (mC (.str ""))))
   (aJ (mC (.bl true)))
   aI)
   (ao (cO (mB (aa 2))
   (aJ (mC (.bl false)))
   aI)
   (ao (cO (mB (ai (cX false) (aa 3) (mC (.str "run"))))
   (aJ (mC (.bl true)))
   aI)
   (ao (cO (mB (ai (cX true) (aa 1) (mC (.int 0))))
   (aJ (mC (.bl false)))
   aI)
   (ao (cO (mB (ai (yZ false) (aa 3) (c7 (af (mC (.str "stumped")) (af (mC (.str "hit")) ak)))))
   (aJ (ai (yZ false) (aa 0) (c7 (af (mC (.str "bat")) (af (mC (.str "wide")) ak)))))
   aI)
   (aJ (ai (cX false) (aa 0) (mC (.str "bat")))))))))
theorem abr (T:Txt K mg a):aN P w K mg base dM 2 a.Bf a.ur ["kind","runs","rope","way"] (dz K (aB a) 4 GA):=
 aZ T.V0.F NR λ_ _ _ _ _ _=>(by have:=NR.nd;exists (kh DB ?_ ?_ (by with_unfolding_all rfl)),(pL DB ?_ ?_ (by with_unfolding_all rfl)))
noncomputable abbrev WJ:List Str:=["entry","kind","runs","rope"]
theorem NS:aq WJ ["entry"] (aj Vn):=eU
noncomputable def GB:Fn:=cV WJ (ao (aX 1 (ai bG (aa 0) (mC (.int 1))))
   (ao (aX 2 (ai bG (aa 0) (mC (.int 2))))
   (ao (aX 3 (ai bG (aa 0) (mC (.int 3))))
   (ao (cO (lB (mB (aa 3)) (yU (mB (gj 2 Gz (af (aa 1) (af (aa 2) ak))))))
   (aJ (mC (.str "rope")))
   aI)
   (ao (cO (yU (mB (gj 4 GA (af (aa 1) (af (aa 2) (af (aa 3) (af (ai bG (aa 0) (mC (.int 4))) ak)))))))
   (aJ (mC (.str "way")))
   aI)
   (aJ (mC .bu)))))))
theorem abt (T:Txt K mg a):aN P w K mg base dM 3 a.Bg a.uv ["entry"] (dz K (aB a) 1 GB):=
 aZ T.V1.F NS λ_ _ _ _ _ _=>(by have:=NS.nd;exists (di (abq T) T.VZ ?_),(di (abr T) T.V0 ?_))
noncomputable abbrev WK:List Str:=["innings","entry","fault"]
theorem NT:aq WK ["innings","entry"] (aj Vo):=eU
noncomputable def GC:Fn:=cV WK (ao (cO (mB (aF "Innings" "has_gap" 1 yf (aa 0) ak))
   (aJ (mC (.str "empty")))
   aI)
   (ao (cO (mB (ai (cX false) (aO ["Innings"] "bowler" (aa 0)) (mC (.str ""))))
   (aJ (mC (.str "bowler")))
   aI)
   (ao (aX 2 (gj 1 GB (af (aa 1) ak)))
   (ao (cO (lB (mB (ai (g9 false) (aa 2) (mC .bu))) (lB (mB (ai (cX false) (ai bG (aa 1) (mC (.int 4))) (mC (.str "run")))) (yU (mB (aF "Innings" "stands" 2 o7 (aa 0) (af (ai bG (aa 1) (mC (.int 5))) ak))))))
   (aJ (mC (.str "who")))
   aI)
   (aJ (aa 2))))))
theorem abu (T:Txt K mg a):aN P w K mg base dM 4 a.Bh a.uw ["innings","entry"] (dz K (aB a) 2 GC):=
 aZ T.V2.F NT λ_ _ _ _ _ _=>(by have:=NT.nd;exists (aK (bf T) (zE T) (Eb T) (by decide) T.BQ.b aA ?_),(av (kI T) ?_),(di (abt T) T.V1 ?_),(aY (bf T) (mW T) (qc T) (by decide) T.qJ.b aA ?_ ?_))
noncomputable abbrev WL:List Str:=["innings","batting","name"]
theorem NU:aq WL ["innings","batting","name"] (aj Vp):=eU
noncomputable def GD:Fn:=cV WL (ao (cO (yU (mB (aF "Innings" "has_gap" 1 yf (aa 0) ak)))
   (aJ (mC (.str "full")))
   aI)
   (ao (cO (mB (ai (yZ true) (aa 2) (aa 1)))
   (aJ (mC (.str "team")))
   aI)
   (ao (cO (mB (ai (AV false) (aa 2) (aO ["Innings"] "outs" (aa 0))))
   (aJ (mC (.str "out")))
   aI)
   (aJ (CI (mB (aF "Innings" "stands" 2 o7 (aa 0) (af (aa 2) ak))) (mC (.str "there")) (mC .bu))))))
theorem abv (T:Txt K mg a):aN P w K mg base dM 4 a.Bj a.ux ["innings","batting","name"] (dz K (aB a) 3 GD):=
 aZ T.V3.F NU λ_ _ _ _ _ _=>(by have:=NU.nd;exists (aK (bf T) (zE T) (Eb T) (by decide) T.BQ.b aA ?_),(kh AU ?_ ?_ (by with_unfolding_all rfl)),(ZO ?_ ?_),(av (mU T) ?_),(aY (bf T) (mW T) (qc T) (by decide) T.qJ.b aA ?_ ?_))
noncomputable abbrev WM:List Str:=["innings","fielding","spell","name"]
theorem NV:aq WM ["innings","fielding","spell","name"] (aj Vq):=eU
noncomputable def GF:Fn:=cV WM (ao (cO (mB (ai (cX true) (aO ["Innings"] "bowler" (aa 0)) (mC (.str ""))))
   (aJ (mC (.str "bowling")))
   aI)
   (ao (cO (mB (ai (yZ true) (aa 3) (aa 1)))
   (aJ (mC (.str "team")))
   aI)
   (ao (cO (mB (ai (cX false) (aa 3) (aO ["Innings"] "ahead" (aa 0))))
   (aJ (mC (.str "twice")))
   aI)
   (ao (cO (mB (kg sW UC (mC (.int 0)) (aa 2) (FF (aO ["Innings"] "spells" (aa 0)) (aa 3) (mC (.int 0)))))
   (aJ (mC (.str "spell")))
   aI)
   (aJ (mC .bu))))))
theorem abw (T:Txt K mg a):aN P w K mg base dM 2 a.Bk a.uy ["innings","fielding","spell","name"] (dz K (aB a) 4 GF):=
 aZ T.V4.F NV λ_ _ _ _ _ _=>(by have:=NV.nd;exists (av (kI T) ?_),(kh AU ?_ ?_ (by with_unfolding_all rfl)),(av (ve T) ?_),(sQ Ig Ih ?_ ?_ ?_),(FG ?_ ?_ ?_),(av (o5 T) ?_))
noncomputable abbrev WN:List Str:=["innings","rules","batting","fielding","entry"]
theorem NW:aq WN ["innings","rules","batting","fielding","entry"] (aj Vr):=eU
noncomputable def GG:Fn:=cV WN (ao (cO (mB (ai (cX false) (ai bG (aa 4) (mC (.int 0))) (mC (.str "ball"))))
   (aJ (gj 2 GC (af (aa 0) (af (aa 4) ak))))
   aI)
   (ao (cO (mB (ai (cX false) (ai bG (aa 4) (mC (.int 0))) (mC (.str "in"))))
   (aJ (gj 3 GD (af (aa 0) (af (aa 2) (af (ai bG (aa 4) (mC (.int 1))) ak)))))
   aI)
   (ao (cO (mB (ai (cX false) (ai bG (aa 4) (mC (.int 0))) (mC (.str "bowl"))))
   (aJ (gj 4 GF (af (aa 0) (af (aa 3) (af (ai bG (aa 1) (mC (.int 2))) (af (ai bG (aa 4) (mC (.int 1))) ak))))))
   aI)
   (ao (cO (mB (ai (cX false) (ai bG (aa 4) (mC (.int 0))) (mC (.str "hurt"))))
   (aJ (CI (mB (aF "Innings" "stands" 2 o7 (aa 0) (af (ai bG (aa 4) (mC (.int 1))) ak))) (mC .bu) (mC (.str "who"))))
   aI)
   (aJ (mC .bu))))))
theorem abx (T:Txt K mg a):aN P w K mg base dM 5 a.Bl a.uz ["innings","rules","batting","fielding","entry"] (dz K (aB a) 5 GG):=
 aZ T.V5.F NW λ_ _ _ _ _ _=>(by have:=NW.nd;exists (di (abu T) T.V2 ?_),(di (abv T) T.V3 ?_),(di (abw T) T.V4 ?_),(cT T.DT),(aY (bf T) (mW T) (qc T) (by decide) T.qJ.b aA ?_ ?_))
noncomputable abbrev WO:List Str:=["self","entry","going","batting","fielding"]
theorem NX:aq WO ["self","entry"] (aj Vs):=eU
noncomputable def qK:Fn:=cV WO (ao (cO (mB (aF "Match" "is_done" 1 ye (aa 0) ak))
   (aJ (mC (.str "done")))
   aI)
   (ao (cO (mB (ai (cX false) (ai bG (aa 1) (mC (.int 0))) (mC (.str "start"))))
   (aJ (aF "Match" "start_refusal" 2 Gs (aa 0) (af (aa 1) ak)))
   aI)
   (ao (cO (mB (ai (cX false) (ai bG (aa 1) (mC (.int 0))) (mC (.str "swap"))))
   (aJ (aF "Match" "swap_refusal" 3 Gv (aa 0) (af (ai bG (aa 1) (mC (.int 1))) (af (ai bG (aa 1) (mC (.int 2))) ak))))
   aI)
   (ao (cO (mB (ai (cX false) (ai bG (aa 1) (mC (.int 0))) (mC (.str "follow"))))
   (aJ (aF "Match" "follow_refusal" 1 Gy (aa 0) ak))
   aI)
   (ao (cO (mB (ai (cX false) (ai bG (aa 1) (mC (.int 0))) (mC (.str "close"))))
   (aJ (mC .bu))
   aI)
   (ao (aX 2 (aF "Match" "going" 1 iZ (aa 0) ak))
   (ao (cO (mB (ai (g9 false) (aa 2) (mC .bu)))
   (aJ (mC (.str "none")))
   aI)
   (ao (aX 3 (ai bG (ai bG (aO ["Match"] "sides" (aa 0)) (aO ["Innings"] "side" (aa 2))) (mC (.int 1))))
   (ao (aX 4 (ai bG (ai bG (aO ["Match"] "sides" (aa 0)) (ai dG (mC (.int 1)) (aO ["Innings"] "side" (aa 2)))) (mC (.int 1))))
   (aJ (gj 5 GG (af (aa 2) (af (aO ["Match"] "rules" (aa 0)) (af (aa 3) (af (aa 4) (af (aa 1) ak))))))))))))))))
theorem aby (T:Txt K mg a):aN P w K mg base dM 8 a.xG a.uA ["self","entry"] (dz K (aB a) 2 qK):=
 aZ T.MS.F NX λ_ _ _ _ _ _=>(by have:=NX.nd;exists (aK (ay T) (zD T) (D8 T) (by decide) T.BP.b aA ?_),(aY (ay T) (Si T) (abl T) (by decide) T.MO.b aA ?_ ?_),(aY (ay T) (Sj T) (abn T) (by decide) T.MP.b aA ?_ ?_),(aK (ay T) (Sn T) (abp T) (by decide) T.MR.b aA ?_),(aK (ay T) (fY T) (ic T) (by decide) T.jq.b aA ?_),(av (gM T) ?_),(av (kH T) ?_),(di (abx T) T.V5 ?_),(av (p_ T) ?_))
noncomputable abbrev aiq:List Str:=["self","side","facing","other","bowler"]
theorem WQ:aq aiq ["self","side","facing","other","bowler"] (aj ahP):=eU
noncomputable def SN:Fn:=cV aiq (ao (bQ ["Innings"] "side" (aa 0) (aa 1))
   (ao (bQ ["Innings"] "facing" (aa 0) (aa 2))
   (ao (bQ ["Innings"] "other" (aa 0) (aa 3))
   (ao (bQ ["Innings"] "bowler" (aa 0) (aa 4))
   (ao (bQ ["Innings"] "ahead" (aa 0) (mC (.str "")))
   (ao (bQ ["Innings"] "total" (aa 0) (mC (.int 0)))
   (ao (bQ ["Innings"] "wickets" (aa 0) (mC (.int 0)))
   (ao (bQ ["Innings"] "overs" (aa 0) (mC (.int 0)))
   (ao (bQ ["Innings"] "balls" (aa 0) (mC (.int 0)))
   (ao (bQ ["Innings"] "ending" (aa 0) (mC (.str "")))
   (ao (bQ ["Innings"] "outs" (aa 0) DG)
   (bQ ["Innings"] "spells" (aa 0) (LW [((aa 4),(mC (.int 1)))])))))))))))))
theorem air (T:Txt K mg a):aN P w K mg base dM 2 a.DP a.Bx ["self","side","facing","other","bowler"] (dz K (aB a) 5 SN):=
 aZ T.ah2.F WQ λ_ _ _ _ _ _=>(by have:=WQ.nd;exists (aR (kH T) ?_ ?_),(aR (ia T) ?_ ?_),(aR (l8 T) ?_ ?_),(aR (kI T) ?_ ?_),(aR (ve T) ?_ ?_),(aR (vf T) ?_ ?_),(aR (zz T) ?_ ?_),(aR (pY T) ?_ ?_),(aR (nO T) ?_ ?_),(aR (pZ T) ?_ ?_),(aR (mU T) ?_ ?_),LV,(aR (o5 T) ?_ ?_),(Ru ?_),(Rt ?_ ?_ ?_),Z3)
noncomputable abbrev WR:List Str:=["self","entry","side"]
theorem NY:aq WR ["self","entry"] (aj Vt):=eU
noncomputable def GH:Fn:=cV WR (ao (aX 2 (aF "Match" "side_to_start" 2 B9 (aa 0) (af (ai bG (aa 1) (mC (.int 1))) ak)))
   (cQ (nJ CJ pQ (aO ["Match"] "played" (aa 0)) (af (nu "Innings" 5 SN (af (aa 2) (af (ai bG (aa 1) (mC (.int 2))) (af (ai bG (aa 1) (mC (.int 3))) (af (ai bG (aa 1) (mC (.int 4))) ak))))) ak))))
theorem abz (T:Txt K mg a):aN P w K mg base dM 7 a.xH a.uB ["self","entry"] (dz K (aB a) 2 GH):=
 aZ T.MT.F NY λ_ _ _ _ _ _=>(by have:=NY.nd;exists (aY (ay T) (Gj T) (NG T) (by decide) T.F_.b aA ?_ ?_),(jx zaF zaT zaU jw gY ?_ ?_),(av (iY T) ?_),(mO (c:= "Innings") (DU T) (air T) (by decide) (BS T) T.ah2.b aA ?_))
noncomputable abbrev WS:List Str:=["rules","kind","runs","wide","noball"]
theorem NZ:aq WS ["rules","kind","runs"] (aj Vu):=eU
noncomputable def GI:Fn:=cV WS (ao (cO (mB (ai (cX false) (aa 1) (mC (.str "bat"))))
   (aJ (c7 (af (aa 2) (af (mC (.int 0)) (af (aa 2) ak)))))
   aI)
   (ao (cO (mB (ai (cX false) (aa 1) (mC (.str "wide"))))
   (ao (aX 3 (ai cL (ai bG (aa 0) (mC (.int 3))) (aa 2)))
   (aJ (c7 (af (mC (.int 0)) (af (aa 3) (af (aa 3) ak))))))
   aI)
   (ao (aX 4 (ai bG (aa 0) (mC (.int 4))))
   (ao (cO (mB (ai (cX false) (aa 1) (mC (.str "no"))))
   (aJ (c7 (af (aa 2) (af (aa 4) (af (ai cL (aa 4) (aa 2)) ak)))))
   aI)
   (ao (cO (mB (ai (cX false) (aa 1) (mC (.str "nobye"))))
   (aJ (c7 (af (mC (.int 0)) (af (ai cL (aa 4) (aa 2)) (af (aa 4) ak)))))
   aI)
   (aJ (c7 (af (mC (.int 0)) (af (aa 2) (af (mC (.int 0)) ak))))))))))
theorem abA (T:Txt K mg a):aN P w K mg base dM 2 a.Bm a.uC ["rules","kind","runs"] (dz K (aB a) 3 GI):=
 aZ T.V6.F NZ λ_ _ _ _ _ _=>(by have:=NZ.nd;exists (cT T.IP),(cT T.BK))
noncomputable abbrev WT:List Str:=["rules","entry","kind","runs","by","fair","faced","crossed","credited"]
theorem N1:aq WT ["rules","entry"] (aj Vv):=eU
noncomputable def GJ:Fn:=cV WT (ao (aX 2 (ai bG (aa 1) (mC (.int 1))))
   (ao (aX 3 (ai bG (aa 1) (mC (.int 2))))
   (ao (aX 4 (gj 3 GI (af (aa 0) (af (aa 2) (af (aa 3) ak)))))
   (ao (aX 5 (ai (yZ false) (aa 2) (c7 (af (mC (.str "bat")) (af (mC (.str "bye")) (af (mC (.str "leg")) ak))))))
   (ao (aX 6 (ai (cX true) (aa 2) (mC (.str "wide"))))
   (ao (aX 7 (Ie (ai (cX false) (ai nH (aa 3) (mC (.int 2))) (mC (.int 1))) (QY (ai bG (aa 1) (mC (.int 3))))))
   (ao (aX 8 (ai (yZ true) (ai bG (aa 1) (mC (.int 4))) (c7 (af (mC (.str "")) (af (mC (.str "run")) ak)))))
   (aJ (ai cL (ai cL (c7 (af (ai cL (ai bG (aa 4) (mC (.int 0))) (ai bG (aa 4) (mC (.int 1)))) ak)) (aa 4)) (c7 (af (aa 5) (af (aa 6) (af (aa 7) (af (aa 8) ak))))))))))))))
theorem abC (T:Txt K mg a):aN P w K mg base dM 3 a.Bo a.uD ["rules","entry"] (dz K (aB a) 2 GJ):=
 aZ T.V7.F N1 λ_ _ _ _ _ _=>(by have:=N1.nd;exists (di (abA T) T.V6 ?_),(pL DB ?_ ?_ (by with_unfolding_all rfl)),(LF ?_),(pL AU ?_ ?_ (by with_unfolding_all rfl)))
noncomputable abbrev WU:List Str:=["self","entry"]
theorem N2:aq WU ["self","entry"] (aj Vw):=eU
noncomputable def GK:Fn:=cV WU (ao (cO (mB (ai (cX false) (ai bG (aa 1) (mC (.int 4))) (mC (.str "run"))))
   (aJ (ai bG (aa 1) (mC (.int 5))))
   aI)
   (aJ (CI (mB (ai (cX false) (ai bG (aa 1) (mC (.int 4))) (mC (.str "")))) (mC (.str "")) (aO ["Innings"] "facing" (aa 0)))))
theorem abD (T:Txt K mg a):aN P w K mg base dM 2 a.xJ a.uE ["self","entry"] (dz K (aB a) 2 GK):=
 aZ T.MU.F N2 λ_ _ _ _ _ _=>(by have:=N2.nd;exists (av (ia T) ?_))
noncomputable abbrev WV:List Str:=["self","facing"]
theorem N3:aq WV ["self"] (aj Vx):=eU
noncomputable def yg:Fn:=cV WV (ao (aX 1 (aO ["Innings"] "facing" (aa 0)))
   (ao (bQ ["Innings"] "facing" (aa 0) (aO ["Innings"] "other" (aa 0)))
   (bQ ["Innings"] "other" (aa 0) (aa 1))))
theorem Ec (T:Txt K mg a):aN P w K mg base dM 2 a.xK a.uF ["self"] (dz K (aB a) 1 yg):=
 aZ T.BR.F N3 λ_ _ _ _ _ _=>(by have:=N3.nd;exists (av (ia T) ?_),(aR (ia T) ?_ ?_),(av (l8 T) ?_),(aR (l8 T) ?_ ?_))
noncomputable abbrev WW:List Str:=["self","name"]
theorem N4:aq WW ["self","name"] (aj Vy):=eU
noncomputable def B_:Fn:=cV WW (cO (mB (ai (cX false) (aO ["Innings"] "facing" (aa 0)) (aa 1)))
   (bQ ["Innings"] "facing" (aa 0) (mC (.str "")))
   (bQ ["Innings"] "other" (aa 0) (mC (.str ""))))
theorem N5 (T:Txt K mg a):aN P w K mg base dM 2 a.xM a.uG ["self","name"] (dz K (aB a) 2 B_):=
 aZ T.Ga.F N4 λ_ _ _ _ _ _=>(by have:=N4.nd;exists (av (ia T) ?_),(aR (ia T) ?_ ?_),(aR (l8 T) ?_ ?_))
noncomputable abbrev WX:List Str:=["self","name","end","empty"]
theorem N6:aq WX ["self","name","end"] (aj Vz):=eU
noncomputable def GL:Fn:=cV WX (ao (Fv (aO ["Innings"] "outs" (aa 0)) (aa 1) (mC (.bl true)))
   (ao (wK ["Innings"] "wickets" (λi j=>i+j) (aa 0) (mC (.int 1)))
   (ao (cQ (aF "Innings" "leave" 2 B_ (aa 0) (af (aa 1) ak)))
   (ao (aX 3 (CI (mB (ai (cX false) (aO ["Innings"] "facing" (aa 0)) (mC (.str "")))) (mC (.str "strike")) (mC (.str "other"))))
   (cO (mB (ai (cX true) (aa 3) (aa 2)))
   (cQ (aF "Innings" "change_ends" 1 yg (aa 0) ak))
   aI)))))
theorem abE (T:Txt K mg a):aN P w K mg base dM 3 a.xN a.uH ["self","name","end"] (dz K (aB a) 3 GL):=
 aZ T.MV.F N6 λ_ _ _ _ _ _=>(by have:=N6.nd;exists (Fw ?_ ?_ ?_),(av (mU T) ?_),(rC rD (zz T) ?_ ?_),(aY (bf T) (Gk T) (N5 T) (by decide) T.Ga.b aA ?_ ?_),(av (ia T) ?_),(aK (bf T) (zF T) (Ec T) (by decide) T.BR.b aA ?_))
noncomputable abbrev WY:List Str:=["self","over"]
theorem N7:aq WY ["self","over"] (aj VA):=eU
noncomputable def GN:Fn:=cV WY (ao (wK ["Innings"] "balls" (λi j=>i+j) (aa 0) (mC (.int 1)))
   (cO (mB (ai gGe (aO ["Innings"] "balls" (aa 0)) (aa 1)))
   (ao (wK ["Innings"] "overs" (λi j=>i+j) (aa 0) (mC (.int 1)))
   (ao (bQ ["Innings"] "balls" (aa 0) (mC (.int 0)))
   (ao (cQ (aF "Innings" "change_ends" 1 yg (aa 0) ak))
   (ao (bQ ["Innings"] "ahead" (aa 0) (aO ["Innings"] "bowler" (aa 0)))
   (bQ ["Innings"] "bowler" (aa 0) (mC (.str "")))))))
   aI))
theorem abF (T:Txt K mg a):aN P w K mg base dM 3 a.xO a.uI ["self","over"] (dz K (aB a) 2 GN):=
 aZ T.MW.F N7 λ_ _ _ _ _ _=>(by have:=N7.nd;exists (rC rD (nO T) ?_ ?_),(av (nO T) ?_),(rC rD (pY T) ?_ ?_),(aR (nO T) ?_ ?_),(aK (bf T) (zF T) (Ec T) (by decide) T.BR.b aA ?_),(aR (ve T) ?_ ?_),(av (kI T) ?_),(aR (kI T) ?_ ?_))
noncomputable abbrev WZ:List Str:=["self","rules","entry","sums","out"]
theorem N8:aq WZ ["self","rules","entry"] (aj VB):=eU
noncomputable def GO:Fn:=cV WZ (ao (aX 3 (gj 2 GJ (af (aa 1) (af (aa 2) ak))))
   (ao (aX 4 (aF "Innings" "out_by" 2 GK (aa 0) (af (aa 2) ak)))
   (ao (wK ["Innings"] "total" (λi j=>i+j) (aa 0) (ai bG (aa 3) (mC (.int 0))))
   (ao (cO (mB (ai bG (aa 3) (mC (.int 6))))
   (cQ (aF "Innings" "change_ends" 1 yg (aa 0) ak))
   aI)
   (ao (cO (mB (ai (cX true) (aa 4) (mC (.str ""))))
   (cQ (aF "Innings" "fall" 3 GL (aa 0) (af (aa 4) (af (CI (mB (ai (cX false) (ai bG (aa 2) (mC (.int 4))) (mC (.str "run")))) (ai bG (aa 2) (mC (.int 6))) (mC (.str "strike"))) ak))))
   aI)
   (ao (cO (mB (ai bG (aa 3) (mC (.int 4))))
   (cQ (aF "Innings" "count_fair" 2 GN (aa 0) (af (ai bG (aa 1) (mC (.int 0))) ak)))
   aI)
   (aJ (aa 4))))))))
theorem abG (T:Txt K mg a):aN P w K mg base dM 4 a.xP a.uJ ["self","rules","entry"] (dz K (aB a) 3 GO):=
 aZ T.MX.F N8 λ_ _ _ _ _ _=>(by have:=N8.nd;exists (di (abC T) T.V7 ?_),(aY (bf T) (Ss T) (abD T) (by decide) T.MU.b aA ?_ ?_),(rC rD (vf T) ?_ ?_),(cT T.BL),(cT T.zy),(aK (bf T) (zF T) (Ec T) (by decide) T.BR.b aA ?_),(aY (bf T) (Su T) (abE T) (by decide) T.MV.b aA ?_ ?_),(cT T.IK),(aY (bf T) (Sv T) (abF T) (by decide) T.MW.b aA ?_ ?_),(cT T.IM))
noncomputable abbrev W0:List Str:=["self","entry","going","ahead","out"]
theorem N9:aq W0 ["self","entry"] (aj VC):=eU
noncomputable def GP:Fn:=cV W0 (ao (aX 2 (aF "Match" "going" 1 iZ (aa 0) ak))
   (ao (aX 3 (c7 (af (ai dG (b9 gm (af (aO ["Match"] "played" (aa 0)) ak)) (mC (.int 1))) (af (aO ["Innings"] "overs" (aa 2)) (af (aO ["Innings"] "balls" (aa 2)) (af (aO ["Innings"] "facing" (aa 2)) (af (aO ["Innings"] "other" (aa 2)) (af (aO ["Innings"] "bowler" (aa 2)) ak))))))))
   (ao (aX 4 (aF "Innings" "play" 3 GO (aa 2) (af (aO ["Match"] "rules" (aa 0)) (af (aa 1) ak))))
   (cQ (nJ CJ pQ (aO ["Match"] "balls_told" (aa 0)) (af (ai cL (aa 3) (c7 (af (aa 1) (af (aa 4) ak)))) ak))))))
theorem abH (T:Txt K mg a):aN P w K mg base dM 5 a.xQ a.uK ["self","entry"] (dz K (aB a) 2 GP):=
 aZ T.MY.F N9 λ_ _ _ _ _ _=>(by have:=N9.nd;exists (aK (ay T) (fY T) (ic T) (by decide) T.jq.b aA ?_),(cM ji T.jo zaO ?_),(av (iY T) ?_),(av (pY T) ?_),(av (nO T) ?_),(av (ia T) ?_),(av (l8 T) ?_),(av (kI T) ?_),(aY (bf T) (Sw T) (abG T) (by decide) T.MX.b aA ?_ ?_),(av (p_ T) ?_),(jx zaF zaT zaU jw gY ?_ ?_),(av (DX T) ?_))
noncomputable abbrev W2:List Str:=["self","name"]
theorem N_:aq W2 ["self","name"] (aj VD):=eU
noncomputable def GQ:Fn:=cV W2 (cO (mB (ai (cX false) (aO ["Innings"] "facing" (aa 0)) (mC (.str ""))))
   (bQ ["Innings"] "facing" (aa 0) (aa 1))
   (bQ ["Innings"] "other" (aa 0) (aa 1)))
theorem abI (T:Txt K mg a):aN P w K mg base dM 2 a.xR a.uL ["self","name"] (dz K (aB a) 2 GQ):=
 aZ T.MZ.F N_ λ_ _ _ _ _ _=>(by have:=N_.nd;exists (av (ia T) ?_),(aR (ia T) ?_ ?_),(aR (l8 T) ?_ ?_))
noncomputable abbrev W3:List Str:=["self","name"]
theorem Oa:aq W3 ["self","name"] (aj VE):=eU
noncomputable def GR:Fn:=cV W3 (ao (bQ ["Innings"] "bowler" (aa 0) (aa 1))
   (Fv (aO ["Innings"] "spells" (aa 0)) (aa 1) (ai cL (FF (aO ["Innings"] "spells" (aa 0)) (aa 1) (mC (.int 0))) (mC (.int 1)))))
theorem abJ (T:Txt K mg a):aN P w K mg base dM 2 a.xS a.uM ["self","name"] (dz K (aB a) 2 GR):=
 aZ T.M0.F Oa λ_ _ _ _ _ _=>(by have:=Oa.nd;exists (aR (kI T) ?_ ?_),(Fw ?_ ?_ ?_),(av (o5 T) ?_),(FG ?_ ?_ ?_))
noncomputable abbrev W4:List Str:=["players","old","new"]
theorem Ob:aq W4 ["players","old","new"] (aj MI):=eU
noncomputable def GS:Fn:=cV W4 (aJ (gi (sY iL (aa 0)) [2,1] 1 (bY 2) jj (CI (mB (ai (cX false) (aa 2) (aa 1))) (aa 0) (aa 2))))
theorem abK (T:Txt K mg a):aN P w K mg base dM 2 a.Bp a.uN ["players","old","new"] (dz K (aB a) 3 GS):=
 aZ T.V8.F Ob λ_ _ _ _ _ _=>(by have:=Ob.nd;exists (iB (F:=["new","old"]) (T:=["name"]) (fr:=[2,1]) (JQ MI (by decide +kernel)) ?_ (λ_ _ _ _ _=>?_) (λ_ _ _ _ _=>?_) (λ_ _ _ _ _=>?_)),(fU 2 (show (["new","old","name"]:List Str).Nodup by decide +kernel)))
noncomputable abbrev W5:List Str:=["told","old","new"]
theorem Oc:aq W5 ["told","old","new"] (aj MJ):=eU
noncomputable def Ca:Fn:=cV W5 (aJ (b9 zv (af (gi (sY iD (aa 0)) [2,0,1] 1 (bY 3) jj (c7 (af (CI (mB (ai (cX false) (aa 3) (aa 2))) (aa 0) (aa 3)) (af (ai Mx (aa 1) (aa 3)) ak)))) ak)))
theorem abL (T:Txt K mg a):aN P w K mg base dM 2 a.Bq a.uO ["told","old","new"] (dz K (aB a) 3 Ca):=
 aZ T.V9.F Oc λ_ _ _ _ _ _=>(by have:=Oc.nd;exists (iJ Sb T.aaY PyProof.Rows.boot_dict ?_),(iB (F:=["new","told","old"]) (T:=["name"]) (fr:=[2,0,1]) (JQ MJ (by decide +kernel)) ?_ (λ_ _ _ _ _=>?_) (λ_ _ _ _ _=>?_) (λ_ _ _ _ _=>?_)),(R_ ?_),(fU 3 (show (["new","told","old","name"]:List Str).Nodup by decide +kernel)),(aaS ?_ ?_))
noncomputable abbrev W6:List Str:=["self","old","new"]
theorem Od:aq W6 ["self","old","new"] (aj VF):=eU
noncomputable def GU:Fn:=cV W6 (ao (bQ ["Innings"] "outs" (aa 0) (gj 3 Ca (af (aO ["Innings"] "outs" (aa 0)) (af (aa 1) (af (aa 2) ak)))))
   (ao (bQ ["Innings"] "spells" (aa 0) (gj 3 Ca (af (aO ["Innings"] "spells" (aa 0)) (af (aa 1) (af (aa 2) ak)))))
   (cO (mB (ai (cX false) (aO ["Innings"] "ahead" (aa 0)) (aa 1)))
   (bQ ["Innings"] "ahead" (aa 0) (aa 2))
   aI)))
theorem abM (T:Txt K mg a):aN P w K mg base dM 3 a.xT a.uP ["self","old","new"] (dz K (aB a) 3 GU):=
 aZ T.M3.F Od λ_ _ _ _ _ _=>(by have:=Od.nd;exists (aR (mU T) ?_ ?_),(di (abL T) T.V9 ?_),(av (mU T) ?_),(aR (o5 T) ?_ ?_),(av (o5 T) ?_),(av (ve T) ?_),(aR (ve T) ?_ ?_))
noncomputable abbrev W7:List Str:=["self","old","new","going"]
theorem Oe:aq W7 ["self","old","new"] (aj MK):=eU
noncomputable def GV:Fn:=cV W7 (ao (cQ (nJ CJ pQ (aO ["Match"] "known" (aa 0)) (af (aa 2) ak)))
   (ao (bQ ["Match"] "sides" (aa 0) (gi (sY iL (aO ["Match"] "sides" (aa 0))) [1,2] 2 (kT 2 (fL (bY 2) (fL (bY 3) qV))) jj (c7 (af (aa 2) (af (gj 3 GS (af (aa 3) (af (aa 0) (af (aa 1) ak)))) ak)))))
   (ao (aX 3 (aF "Match" "going" 1 iZ (aa 0) ak))
   (cO (mB (ai (g9 true) (aa 3) (mC .bu)))
   (cQ (aF "Innings" "rename" 3 GU (aa 3) (af (aa 1) (af (aa 2) ak))))
   aI))))
theorem abN (T:Txt K mg a):aN P w K mg base dM 4 a.xU a.uQ ["self","old","new"] (dz K (aB a) 3 GV):=
 aZ T.M4.F Oe λ_ _ _ _ _ _=>(by have:=Oe.nd;exists (jx zaF zaT zaU jw gY ?_ ?_),(av (DW T) ?_),(aR (gM T) ?_ ?_),(iB (F:=["old","new"]) (T:=["name","players"]) (fr:=[1,2]) (JQ MK (by decide +kernel)) ?_ (λ_ _ _ _ _=>?_) (λ_ _ _ _ _=>?_) (λ_ _ _ _ _=>?_)),(av (gM T) ?_),(l7 (n:=2) ?_),(fU 2 (show (["old","new","name","players"]:List Str).Nodup by decide +kernel)),(fU 3 (show (["old","new","name","players"]:List Str).Nodup by decide +kernel)),(di (abK T) T.V8 ?_),(aK (ay T) (fY T) (ic T) (by decide) T.jq.b aA ?_),(aY (bf T) (SD T) (abM T) (by decide) T.M3.b aA ?_ ?_))
noncomputable abbrev W8:List Str:=["self","going"]
theorem Of:aq W8 ["self"] (aj VG):=eU
noncomputable def GW:Fn:=cV W8 (ao (bQ ["Match"] "closed" (aa 0) (mC (.bl true)))
   (ao (aX 1 (aF "Match" "going" 1 iZ (aa 0) ak))
   (cO (mB (ai (g9 true) (aa 1) (mC .bu)))
   (bQ ["Innings"] "ending" (aa 1) (mC (.str "closed")))
   aI)))
theorem abO (T:Txt K mg a):aN P w K mg base dM 3 a.xV a.uR ["self"] (dz K (aB a) 1 GW):=
 aZ T.M5.F Of λ_ _ _ _ _ _=>(by have:=Of.nd;exists (aR (zB T) ?_ ?_),(aK (ay T) (fY T) (ic T) (by decide) T.jq.b aA ?_),(aR (pZ T) ?_ ?_))
noncomputable abbrev W9:List Str:=["self","entry","going","word"]
theorem Og:aq W9 ["self","entry"] (aj VH):=eU
noncomputable def vn:Fn:=cV W9 (ao (aX 2 (aF "Match" "going" 1 iZ (aa 0) ak))
   (ao (aX 3 (ai bG (aa 1) (mC (.int 0))))
   (cO (mB (ai (cX false) (aa 3) (mC (.str "start"))))
   (cQ (aF "Match" "begin" 2 GH (aa 0) (af (aa 1) ak)))
   (cO (mB (ai (cX false) (aa 3) (mC (.str "ball"))))
   (cQ (aF "Match" "play_ball" 2 GP (aa 0) (af (aa 1) ak)))
   (cO (mB (ai (cX false) (aa 3) (mC (.str "in"))))
   (cQ (aF "Innings" "come_in" 2 GQ (aa 2) (af (ai bG (aa 1) (mC (.int 1))) ak)))
   (cO (mB (ai (cX false) (aa 3) (mC (.str "bowl"))))
   (cQ (aF "Innings" "bowl_next" 2 GR (aa 2) (af (ai bG (aa 1) (mC (.int 1))) ak)))
   (cO (mB (ai (cX false) (aa 3) (mC (.str "hurt"))))
   (cQ (aF "Innings" "leave" 2 B_ (aa 2) (af (ai bG (aa 1) (mC (.int 1))) ak)))
   (cO (mB (ai (cX false) (aa 3) (mC (.str "swap"))))
   (cQ (aF "Match" "swap_player" 3 GV (aa 0) (af (ai bG (aa 1) (mC (.int 1))) (af (ai bG (aa 1) (mC (.int 2))) ak))))
   (cO (mB (ai (cX false) (aa 3) (mC (.str "declare"))))
   (bQ ["Innings"] "ending" (aa 2) (mC (.str "declared")))
   (cO (mB (ai (cX false) (aa 3) (mC (.str "follow"))))
   (bQ ["Match"] "followed" (aa 0) (mC (.bl true)))
   (cQ (aF "Match" "close" 1 GW (aa 0) ak))))))))))))
theorem abP (T:Txt K mg a):aN P w K mg base dM 8 a.xW a.uS ["self","entry"] (dz K (aB a) 2 vn):=
 aZ T.M6.F Og λ_ _ _ _ _ _=>(by have:=Og.nd;exists (aK (ay T) (fY T) (ic T) (by decide) T.jq.b aA ?_),(aY (ay T) (Sq T) (abz T) (by decide) T.MT.b aA ?_ ?_),(aY (ay T) (Sx T) (abH T) (by decide) T.MY.b aA ?_ ?_),(aY (bf T) (Sy T) (abI T) (by decide) T.MZ.b aA ?_ ?_),(aY (bf T) (SA T) (abJ T) (by decide) T.M0.b aA ?_ ?_),(aY (bf T) (Gk T) (N5 T) (by decide) T.Ga.b aA ?_ ?_),(aY (ay T) (SE T) (abN T) (by decide) T.M4.b aA ?_ ?_),(aR (pZ T) ?_ ?_),(aR (zA T) ?_ ?_),(aK (ay T) (SG T) (abO T) (by decide) T.M5.b aA ?_))
noncomputable abbrev W_:List Str:=["self","players"]
theorem Oh:aq W_ ["self","players"] (aj ML):=eU
noncomputable def GX:Fn:=cV W_ (aJ (b9 Q9 (af (gi (sY iL (aa 1)) [0] 1 (bY 1) jj (Ie (ai (AV true) (aa 1) (aO ["Innings"] "outs" (aa 0))) (QY (aF "Innings" "stands" 2 o7 (aa 0) (af (aa 1) ak))))) ak)))
theorem abQ (T:Txt K mg a):aN P w K mg base dM 3 a.xX a.uU ["self","players"] (dz K (aB a) 2 GX):=
 aZ T.M7.F Oh λ_ _ _ _ _ _=>(by have:=Oh.nd;exists (cM agx T.ahY PyProof.Rows.boot_any ?_),(iB (F:=["self"]) (T:=["name"]) (fr:=[0]) (JQ ML (by decide +kernel)) ?_ (λ_ _ _ _ _=>?_) (λ_ _ _ _ _=>?_) (λ_ _ _ _ _=>?_)),(fU 1 (show (["self","name"]:List Str).Nodup by decide +kernel)),(Q4 ?_ ?_),(av (mU T) ?_),(LF ?_),(aY (bf T) (mW T) (qc T) (by decide) T.qJ.b aA ?_ ?_))
noncomputable abbrev Xa:List Str:=["self","going"]
theorem Oi:aq Xa ["self","going"] (aj VI):=eU
noncomputable def GY:Fn:=cV Xa (ao (cO (lB (mB (ai (cX false) (b9 gm (af (aO ["Match"] "played" (aa 0)) ak)) (aF "Match" "most_innings" 1 vh (aa 0) ak))) (mB (ai wI (aF "Match" "lead_of" 2 vj (aa 0) (af (aO ["Innings"] "side" (aa 1)) ak)) (mC (.int 0)))))
   (aJ (mC (.str "won")))
   aI)
   (ao (cO (lB (mB (aF "Innings" "has_gap" 1 yf (aa 1) ak)) (yU (mB (aF "Innings" "has_left" 2 GX (aa 1) (af (ai bG (ai bG (aO ["Match"] "sides" (aa 0)) (aO ["Innings"] "side" (aa 1))) (mC (.int 1))) ak)))))
   (aJ (mC (.str "out")))
   aI)
   (aJ (CI (mB (kg sW UC (mC (.int 0)) (ai bG (aO ["Match"] "rules" (aa 0)) (mC (.int 1))) (aO ["Innings"] "overs" (aa 1)))) (mC (.str "overs")) (mC (.str ""))))))
theorem abR (T:Txt K mg a):aN P w K mg base dM 4 a.xY a.uV ["self","going"] (dz K (aB a) 2 GY):=
 aZ T.M8.F Oi λ_ _ _ _ _ _=>(by have:=Oi.nd;exists (cM ji T.jo zaO ?_),(av (iY T) ?_),(aK (ay T) (zC T) (D7 T) (by decide) T.BO.b aA ?_),(aY (ay T) (rF T) (zL T) (by decide) T.ya.b aA ?_ ?_),(av (kH T) ?_),(aK (bf T) (zE T) (Eb T) (by decide) T.BQ.b aA ?_),(aY (bf T) (SJ T) (abQ T) (by decide) T.M7.b aA ?_ ?_),(av (gM T) ?_),(sQ Ig Ih ?_ ?_ ?_),(av (p_ T) ?_),(cT T.DS),(av (pY T) ?_))
noncomputable abbrev Xb:List Str:=["self","entry","rule","going"]
theorem Oj:aq Xb ["self","entry"] (aj VJ):=eU
noncomputable def kX:Fn:=fnX Xb (ao (aX 2 (aF "Match" "refusal" 2 qK (aa 0) (af (aa 1) ak)))
   (ao (cO (mB (ai (g9 true) (aa 2) (mC .bu)))
   (zg "NotLet" 3 (gT2 "rule" "number") [.int 0] (af (fJ [(mC (.str "the rules don't let this entry: ")),(Z6 (aa 2))] Str.empty) (af (aa 2) ak)))
   aI)
   (ao (cQ (aF "Match" "do" 2 vn (aa 0) (af (aa 1) ak)))
   (ao (aX 3 (aF "Match" "going" 1 iZ (aa 0) ak))
   (cO (mB (ai (g9 true) (aa 3) (mC .bu)))
   (bQ ["Innings"] "ending" (aa 3) (aF "Match" "ending_due" 2 GY (aa 0) (af (aa 3) ak)))
   aI)))))
theorem zM (T:Txt K mg a):aN P w K mg base (vF P w) 9 a.xZ a.uW ["self","entry"] (dz K (aB a) 2 kX):=
 aag T.yb.F Oj λ_ _ _ _ _ _=>(by have:=Oj.nd;exists (aY (ay T) (So T) (aby T) (by decide) T.MS.b aA ?_ ?_),(L_ (c:= "NotLet") (n:=3) (g:=gE2 "rule" "number") (gT:=gT2 "rule" "number") (FN:=[.int 0]) (mG:=[.int 0]) (qa T) (nQ T) (by decide) (D3 T) T.yc (.cons ⟨_,rfl⟩ .nil) (λ_=>.cons dQ .nil) gR2 ?_),(Rw ?_),(Rv ?_ ?_),(Z7 ?_),Z8,(aY (ay T) (SH T) (abP T) (by decide) T.M6.b aA ?_ ?_),(aK (ay T) (fY T) (ic T) (by decide) T.jq.b aA ?_),(aR (pZ T) ?_ ?_),(aY (ay T) (SK T) (abR T) (by decide) T.M8.b aA ?_ ?_))
noncomputable abbrev Xc:List Str:=["_law_match","_law_entry_here","_law_rule","refused"]
theorem Ed:aq Xc ["_law_match","_law_entry_here"] (aj VL):=eU
noncomputable def GZ:Fn:=cV Xc (ao (aX 2 (mC (.str "")))
   (ao (A2 "Match" "tell" 2 kX (aa 0) (af (aa 1) ak) ["NotLet"] (some 3)
   (aX 2 (FO ["NotLet"] "rule" (aa 3))))
   (aJ (aa 2))))
theorem abS (T:Txt K mg a):aN P w K mg base dM 10 a.Br a.uX ["_law_match","_law_entry_here"] (dz K (aB a) 2 GZ):=
 aZ T.V_.F Ed λ_ _ _ _ _ _=>(by have:=Ed.nd;exists (wV (l:=3) (c:= "Match") (T.fF.M.agO) (yd T) (BU T) (ay T) (rG T) (zM T) (by decide) T.yb.b ?_ ?_ Ed.nd (λ_=>?_) rfl rfl),(FP (Gb T) ?_))
noncomputable abbrev Ol:List Str:=["_law_script","_law_rules_here","_law_teams_here","_law_many","_law_match","_law_kept","_law_k","_law_entry_here"]
theorem Ef:aq Ol ["_law_script","_law_rules_here","_law_teams_here","_law_many"] (aj VM):=eU
noncomputable def G0:Fn:=kU (cV Ol (ao (aX 4 (nu "Match" 3 vg (af (aa 1) (af (aa 2) ak))))
   (ao (aX 5 (nj ak))
   (ao (pT (sZ (af (aa 3) ak)) (bY 6)
   (cO (mB (ai (g9 false) (aF "Match" "result" 1 BX (aa 4) ak) (mC .bu)))
   (ao (aX 7 (gj 4 B8 (af (aa 0) (af (ai nI (mC (.int 11)) (aa 6)) (af (aa 2) (af (aa 4) ak))))))
   (cO (mB (ai (cX false) (gj 2 GZ (af (aa 4) (af (aa 7) ak))) (mC (.str ""))))
   (cQ (nJ CJ pQ (aa 5) (af (aa 7) ak)))
   aI))
   aI))
   (aJ (aa 5))))))
theorem abT (T:Txt K mg a):aN P w K mg base dM 11 a.Bt a.uY ["_law_script","_law_rules_here","_law_teams_here","_law_many"] (dz K (aB a) 4 G0):=
 aN.pure (aZ T.Wa.F Ef λ_ _ _ _ _ _=>(by have:=Ef.nd;exists (mO (c:= "Match") (o6 T) (zJ T) (by decide) (mV T) T.BN.b aA ?_),(ku zbq ?_ ?_ ?_),(oR T.oY ?_),(fU 6 Ef.nd),(aK (ay T) (Gd T) (Nq T) (by decide) T.F1.b aA ?_),(di (abk T) T.VX ?_),(di (abS T) T.V_ ?_),(jx zaF zaT zaU jw gY ?_ ?_)))
noncomputable abbrev ais:List Str:=["self","rules","teams"]
theorem Xd:aq ais ["self","rules","teams"] (aj aaX):=eU
noncomputable def Om:Fn:=cV ais (ao (bQ ["Book"] "rules" (aa 0) (aa 1))
   (ao (bQ ["Book"] "teams" (aa 0) (gi (sY iL (aa 2)) [] 2 (kT 2 (fL (bY 0) (fL (bY 1) qV))) jj (c7 (af (aa 0) (af (b9 qC (af (aa 1) ak)) ak)))))
   (ao (bQ ["Book"] "kept" (aa 0) (nj ak))
   (bQ ["Book"] "current" (aa 0) (nu "Match" 3 vg (af (aa 1) (af (aa 2) ak)))))))
theorem ait (T:Txt K mg a):aN P w K mg base dM 5 a.DQ a.BA ["self","rules","teams"] (dz K (aB a) 3 Om):=
 aZ T.ah3.F Xd λ_ _ _ _ _ _=>(by have:=Xd.nd;exists (aR (DY T) ?_ ?_),(aR (DZ T) ?_ ?_),(iB (F:=[]) (T:=["name","players"]) (fr:=[]) (JQ aaX (by decide +kernel)) ?_ (λ_ _ _ _ _=>?_) (λ_ _ _ _ _=>?_) (λ_ _ _ _ _=>?_)),(l7 (n:=2) ?_),(fU 0 (show (["name","players"]:List Str).Nodup by decide +kernel)),(fU 1 (show (["name","players"]:List Str).Nodup by decide +kernel)),(iJ sX T.vc zbJ ?_),(aR (l9 T) ?_ ?_),(aR (D0 T) ?_ ?_),(mO (c:= "Match") (o6 T) (zJ T) (by decide) (mV T) T.BN.b aA ?_))
noncomputable abbrev aiu:List Str:=["self","entry"]
theorem Xe:aq aiu ["self","entry"] (aj ahQ):=eU
noncomputable def SO:Fn:=cV aiu (ao (cQ (aF "Match" "tell" 2 kX (aO ["Book"] "current" (aa 0)) (af (aa 1) ak)))
   (cQ (nJ CJ pQ (aO ["Book"] "kept" (aa 0)) (af (aa 1) ak))))
theorem aiv (T:Txt K mg a):aN P w K mg base dM 10 a.IA a.BB ["self","entry"] (dz K (aB a) 2 SO):=
 aZ T.aa0.F Xe λ_ _ _ _ _ _=>(by have:=Xe.nd;exists (aY (ay T) (rG T) (zM T) (by decide) T.yb.b DK ?_ ?_),(av (D0 T) ?_),(jx zaF zaT zaU jw gY ?_ ?_),(av (l9 T) ?_))
noncomputable abbrev Xf:List Str:=["self"]
theorem Oo:aq Xf ["self"] (aj VN):=eU
noncomputable def G1:Fn:=kU (cV Xf (aJ (b9 qC (af (aO ["Match"] "balls_told" (aa 0)) ak))))
theorem abU (T:Txt K mg a):aN P w K mg base dM 2 a.x_ a.uZ ["self"] (dz K (aB a) 1 G1):=
 aN.pure (aZ T.M9.F Oo λ_ _ _ _ _ _=>(by have:=Oo.nd;exists (iJ sX T.vc zbJ ?_),(av (DX T) ?_)))
noncomputable abbrev Xg:List Str:=["_law_match"]
theorem Oq:aq Xg ["_law_match"] (aj VO):=eU
noncomputable def Cb:Fn:=cV Xg (aJ (kj (af (aF "Match" "state" 1 BY (aa 0) ak) (af (aF "Match" "innings" 1 B4 (aa 0) ak) (af (aF "Match" "turn" 1 vm (aa 0) ak) (af (aF "Match" "players" 1 BZ (aa 0) ak) (af (aF "Match" "result" 1 BX (aa 0) ak) (af (aF "Match" "log" 1 G1 (aa 0) ak) ak))))))))
theorem abV (T:Txt K mg a):aN P w K mg base dM 7 a.Bu a.u9 ["_law_match"] (dz K (aB a) 1 Cb):=
 aZ T.Wb.F Oq λ_ _ _ _ _ _=>(by have:=Oq.nd;exists (aK (ay T) (Ge T) (Nt T) (by decide) T.F4.b aA ?_),(aK (ay T) (Gg T) (Nx T) (by decide) T.F6.b aA ?_),(aK (ay T) (Gi T) (ND T) (by decide) T.F9.b aA ?_),(aK (ay T) (Gf T) (Nv T) (by decide) T.F5.b aA ?_),(aK (ay T) (Gd T) (Nq T) (by decide) T.F1.b aA ?_),(aK (ay T) (SM T) (abU T) (by decide) T.M9.b aA ?_))
noncomputable abbrev aiw:List Str:=["self","own","entry"]
theorem Ot:aq aiw ["self"] (aj ahR):=eU
noncomputable def Ou:Fn:=cV aiw (ao (aX 1 (nu "Match" 3 vg (af (aO ["Book"] "rules" (aa 0)) (af (aO ["Book"] "teams" (aa 0)) ak))))
   (ao (pT (sY iL (aO ["Book"] "kept" (aa 0))) (bY 2)
   (cQ (aF "Match" "tell" 2 kX (aa 1) (af (aa 2) ak))))
   (aJ (aa 1))))
theorem aix (T:Txt K mg a):aN P w K mg base dM 10 a.IB a.BC ["self"] (dz K (aB a) 1 Ou):=
 aZ T.aa1.F Ot λ_ _ _ _ _ _=>(by have:=Ot.nd;exists (mO (c:= "Match") (o6 T) (zJ T) (by decide) (mV T) T.BN.b aA ?_),(av (DY T) ?_),(av (DZ T) ?_),(ku zbq ?_ ?_ ?_),(av (l9 T) ?_),(fU 2 Ot.nd),(aY (ay T) (rG T) (zM T) (by decide) T.yb.b DK ?_ ?_))
noncomputable abbrev aiy:List Str:=["self"]
theorem Xh:aq aiy ["self"] (aj ahS):=eU
noncomputable def Ov:Fn:=cV aiy (aJ (b9 qC (af (aO ["Book"] "kept" (aa 0)) ak)))
theorem aiz (T:Txt K mg a):aN P w K mg base dM 2 a.IC a.BD ["self"] (dz K (aB a) 1 Ov):=
 aZ T.aa2.F Xh λ_ _ _ _ _ _=>(by have:=Xh.nd;exists (iJ sX T.vc zbJ ?_),(av (l9 T) ?_))
noncomputable abbrev Xi:List Str:=["_law_cells","_law_k","_law_teams_here","_law_entry_here","_law_names"]
theorem Ow:aq Xi ["_law_cells","_law_k","_law_teams_here","_law_entry_here"] (aj VP):=eU
noncomputable def G2:Fn:=cV Xi (ao (cO (mB (ai (cX false) (ai bG (aa 3) (mC (.int 0))) (mC (.str "ball"))))
   (aJ (c7 (af (mC (.str "ball")) (af (ai bG (aa 3) (mC (.int 1))) (af (ai nH (ai cL (ai cL (ai bG (aa 3) (mC (.int 2))) (mC (.int 1))) (gj 3 cN (af (aa 0) (af (aa 1) (af (mC (.int 3)) ak))))) (mC (.int 7))) (af (mC (.bl false)) (af (mC (.str "")) (af (mC (.str "")) (af (mC (.str "")) ak)))))))))
   aI)
   (ao (aX 4 (ai cL (ai bG (ai bG (aa 2) (mC (.int 0))) (mC (.int 1))) (ai bG (ai bG (aa 2) (mC (.int 1))) (mC (.int 1)))))
   (ao (cO (mB (ai (yZ false) (ai bG (aa 3) (mC (.int 0))) (kj (af (mC (.str "in")) (af (mC (.str "bowl")) (af (mC (.str "hurt")) ak))))))
   (aJ (c7 (af (ai bG (aa 3) (mC (.int 0))) (af (ai bG (aa 4) (gj 3 cN (af (aa 0) (af (aa 1) (af (b9 gm (af (aa 4) ak)) ak))))) ak))))
   aI)
   (aJ (aa 3)))))
theorem abW (T:Txt K mg a):aN P w K mg base dM 4 a.Bv a.u_ ["_law_cells","_law_k","_law_teams_here","_law_entry_here"] (dz K (aB a) 4 G2):=
 aZ T.Wc.F Ow λ_ _ _ _ _ _=>(by have:=Ow.nd;exists (di (qb T) T.vd ?_),(kh DB ?_ ?_ (by with_unfolding_all rfl)),(cM ji T.jo zaO ?_))
noncomputable abbrev aiA:List Str:=["self","number","count"]
theorem Xj:aq aiA ["self","number","count"] (aj ahT):=eU
noncomputable def IS:Fn:=cV aiA (cO (yU (mB (kg UC sW (mC (.int 0)) (aa 1) (aa 2))))
   LP
   aI)
theorem Ox (T:Txt K mg a):aN P w K mg base dM 2 a.ID a.BE ["self","number","count"] (dz K (aB a) 3 IS):=
 aZ T.M_.F Xj λ_ _ _ _ _ _=>(by have:=Xj.nd;exists (sQ Ih Ig ?_ ?_ ?_),LQ)
noncomputable abbrev aiB:List Str:=["self","entries","trial","number","entry","error"]
theorem Cc:aq aiB ["self","entries"] (aj ahU):=eU
noncomputable def Cd:Fn:=cV aiB (ao (aX 2 (nu "Match" 3 vg (af (aO ["Book"] "rules" (aa 0)) (af (aO ["Book"] "teams" (aa 0)) ak))))
   (ao (pT (mEn 0 (af (aa 1) ak)) (kT 2 (fL (bY 3) (fL (bY 4) qV)))
   (A2 "Match" "tell" 2 kX (aa 2) (af (aa 4) ak) ["NotLet"] (some 5)
   (aJ (c7 (af (aa 3) (af (FO ["NotLet"] "rule" (aa 5)) ak))))))
   (ao (bQ ["Book"] "kept" (aa 0) (aa 1))
   (ao (bQ ["Book"] "current" (aa 0) (aa 2))
   (aJ (mC .bu))))))
theorem Oz (T:Txt K mg a):aN P w K mg base dM 10 a.IE a.BF ["self","entries"] (dz K (aB a) 2 Cd):=
 aZ T.Na.F Cc λ_ _ _ _ _ _=>(by have:=Cc.nd;exists (mO (c:= "Match") (o6 T) (zJ T) (by decide) (mV T) T.BN.b aA ?_),(av (DY T) ?_),(av (DZ T) ?_),(ku zbq ?_ ?_ ?_),(FA T.qI ?_),(l7 (n:=2) ?_),(fU 3 Cc.nd),(fU 4 Cc.nd),(wV (l:=5) (c:= "Match") (T.fF.M.agO) (yd T) (BU T) (ay T) (rG T) (zM T) (by decide) T.yb.b ?_ ?_ Cc.nd (λ_=>?_) rfl rfl),(FP (Gb T) ?_),(aR (l9 T) ?_ ?_),(aR (D0 T) ?_ ?_))
noncomputable abbrev aiC:List Str:=["self","number","entry"]
theorem Xk:aq aiC ["self","number","entry"] (aj ahV):=eU
noncomputable def IT:Fn:=cV aiC (ao (cQ (aF "Book" "need_number" 3 IS (aa 0) (af (aa 1) (af (b9 gm (af (aO ["Book"] "kept" (aa 0)) ak)) ak))))
   (aJ (aF "Book" "retell" 2 Cd (aa 0) (af (ai l6 (ai cL (Fo qA (aO ["Book"] "kept" (aa 0)) gx (iU (aa 1))) (kj (af (aa 2) ak))) (Fo qA (aO ["Book"] "kept" (aa 0)) (iU (ai cL (aa 1) (mC (.int 1)))) gx)) ak))))
theorem aiD (T:Txt K mg a):aN P w K mg base dM 11 a.IG a.BG ["self","number","entry"] (dz K (aB a) 3 IT):=
 aZ T.aa3.F Xk λ_ _ _ _ _ _=>(by have:=Xk.nd;exists (aY (eF T) (D4 T) (Ox T) (by decide) T.M_.b aA ?_ ?_),(cM ji T.jo zaO ?_),(av (l9 T) ?_),(aY (eF T) (D5 T) (Oz T) (by decide) T.Na.b aA ?_ ?_),(yT Dz ?_ ?_))
noncomputable abbrev aiE:List Str:=["self","number","entry"]
theorem Xl:aq aiE ["self","number","entry"] (aj ahW):=eU
noncomputable def IU:Fn:=cV aiE (ao (cQ (aF "Book" "need_number" 3 IS (aa 0) (af (aa 1) (af (ai cL (b9 gm (af (aO ["Book"] "kept" (aa 0)) ak)) (mC (.int 1))) ak))))
   (aJ (aF "Book" "retell" 2 Cd (aa 0) (af (ai l6 (ai cL (Fo qA (aO ["Book"] "kept" (aa 0)) gx (iU (aa 1))) (kj (af (aa 2) ak))) (Fo qA (aO ["Book"] "kept" (aa 0)) (iU (aa 1)) gx)) ak))))
theorem aiF (T:Txt K mg a):aN P w K mg base dM 11 a.II a.BH ["self","number","entry"] (dz K (aB a) 3 IU):=
 aZ T.aa4.F Xl λ_ _ _ _ _ _=>(by have:=Xl.nd;exists (aY (eF T) (D4 T) (Ox T) (by decide) T.M_.b aA ?_ ?_),(cM ji T.jo zaO ?_),(av (l9 T) ?_),(aY (eF T) (D5 T) (Oz T) (by decide) T.Na.b aA ?_ ?_),(yT Dz ?_ ?_))
noncomputable abbrev aiG:List Str:=["self","number"]
theorem Xm:aq aiG ["self","number"] (aj ahX):=eU
noncomputable def IV:Fn:=cV aiG (ao (cQ (aF "Book" "need_number" 3 IS (aa 0) (af (aa 1) (af (b9 gm (af (aO ["Book"] "kept" (aa 0)) ak)) ak))))
   (aJ (aF "Book" "retell" 2 Cd (aa 0) (af (ai l6 (Fo qA (aO ["Book"] "kept" (aa 0)) gx (iU (aa 1))) (Fo qA (aO ["Book"] "kept" (aa 0)) (iU (ai cL (aa 1) (mC (.int 1)))) gx)) ak))))
theorem aiH (T:Txt K mg a):aN P w K mg base dM 11 a.IJ a.BI ["self","number"] (dz K (aB a) 2 IV):=
 aZ T.aa5.F Xm λ_ _ _ _ _ _=>(by have:=Xm.nd;exists (aY (eF T) (D4 T) (Ox T) (by decide) T.M_.b aA ?_ ?_),(cM ji T.jo zaO ?_),(av (l9 T) ?_),(aY (eF T) (D5 T) (Oz T) (by decide) T.Na.b aA ?_ ?_),(yT Dz ?_ ?_))
noncomputable abbrev Xn:List Str:=["_law_script","_law_cells","_law_rules_here","_law_teams_here","_law_kept","_law_book","_law_entry_here","_law_seen_here","_law_undo","_law_k","_law_now","_law_at","_law_way","_law_other_here","_law_found"]
theorem qd:aq Xn ["_law_script"] (aj VQ):=eU
noncomputable def OA:Fn:=cV Xn (ao (aX 1 (gj 2 Gm (af (aa 0) (af (mC (.int 40)) ak))))
   (ao (aX 2 (gj 1 Gp (af (aa 1) ak)))
   (ao (aX 3 (gj 2 Gq (af (aa 1) (af (ai bG (aa 2) (mC (.int 5))) ak))))
   (ao (aX 4 (gj 4 G0 (af (aa 1) (af (aa 2) (af (aa 3) (af (b9 wJ (af (mC (.int 50)) (af (ai nI (mC (.int 3)) (b9 gm (af (aa 1) ak))) ak))) ak))))))
   (ao (aX 5 (nu "Book" 3 Om (af (aa 2) (af (aa 3) ak))))
   (ao (pT (sY iL (aa 4)) (bY 6)
   (cQ (aF "Book" "tell" 2 SO (aa 5) (af (aa 6) ak))))
   (ao (aX 7 (gj 1 Cb (af (aF "Book" "match" 1 Ou (aa 5) ak) ak)))
   (ao (aX 8 (nj ak))
   (ao (pT (sZ (af (mC (.int 5)) ak)) (bY 9)
   (ao (aX 10 (aF "Book" "entries" 1 Ov (aa 5) ak))
   (cO (mB (ai wI (b9 gm (af (aa 10) ak)) (mC (.int 0))))
   (ao (aX 11 (gj 3 cN (af (aa 1) (af (ai cL (mC (.int 3600)) (ai nI (mC (.int 5)) (aa 9))) (af (b9 gm (af (aa 10) ak)) ak)))))
   (ao (aX 12 (gj 3 cN (af (aa 1) (af (ai cL (mC (.int 3601)) (ai nI (mC (.int 5)) (aa 9))) (af (mC (.int 4)) ak)))))
   (ao (aX 13 (gj 4 G2 (af (aa 1) (af (ai cL (mC (.int 3602)) (ai nI (mC (.int 5)) (aa 9))) (af (aa 3) (af (ai bG (aa 10) (aa 11)) ak))))))
   (ao (cO (lB (mB (ai sW (aa 12) (mC (.int 2)))) (mB (ai (g9 false) (aF "Book" "put_right" 3 IT (aa 5) (af (aa 11) (af (aa 13) ak))) (mC .bu))))
   (cQ (nJ CJ pQ (aa 8) (af (c7 (af (mC (.int 0)) (af (aa 11) (af (ai bG (aa 10) (aa 11)) ak)))) ak)))
   aI)
   (ao (cO (lB (mB (ai (cX false) (aa 12) (mC (.int 2)))) (mB (ai (g9 false) (aF "Book" "put_in" 3 IU (aa 5) (af (aa 11) (af (aa 13) ak))) (mC .bu))))
   (cQ (nJ CJ pQ (aa 8) (af (c7 (af (mC (.int 1)) (af (aa 11) (af (ai bG (aa 10) (aa 11)) ak)))) ak)))
   aI)
   (cO (lB (mB (ai (cX false) (aa 12) (mC (.int 3)))) (mB (ai (g9 false) (aF "Book" "take_out" 2 IV (aa 5) (af (aa 11) ak)) (mC .bu))))
   (cQ (nJ CJ pQ (aa 8) (af (c7 (af (mC (.int 2)) (af (aa 11) (af (ai bG (aa 10) (aa 11)) ak)))) ak)))
   aI))))))
   aI)))
   (ao (pT (MC (af (aa 8) ak)) (kT 3 (fL (bY 12) (fL (bY 11) (fL (bY 6) qV))))
   (ao (aX 14 (mC .bu))
   (ao (cO (mB (ai (cX false) (aa 12) (mC (.int 0))))
   (aX 14 (aF "Book" "put_right" 3 IT (aa 5) (af (aa 11) (af (aa 6) ak))))
   (cO (mB (ai (cX false) (aa 12) (mC (.int 1))))
   (aX 14 (aF "Book" "take_out" 2 IV (aa 5) (af (aa 11) ak)))
   (aX 14 (aF "Book" "put_in" 3 IU (aa 5) (af (aa 11) (af (aa 6) ak))))))
   (cO (mB (ai (g9 true) (aa 14) (mC .bu)))
   (aJ (mC (.bl false)))
   aI))))
   (aJ (Ie (ai (cX false) (aF "Book" "entries" 1 Ov (aa 5) ak) (aa 4)) (ai (cX false) (gj 1 Cb (af (aF "Book" "match" 1 Ou (aa 5) ak) ak)) (aa 7))))))))))))))
theorem abX (T:Txt K mg a):aN P w K mg base dM 12 a.Bw a.nM ["_law_script"] (dz K (aB a) 1 OA):=
 aZ T.Nb.F qd λ_ _ _ _ _ _=>(by have:=qd.nd;exists (di (abe T) T.VR ?_),(di (abg T) T.VT ?_),(di (abh T) T.VU ?_),(di (abT T) T.Wa ?_),(cM ZP T.ahZ PyProof.Rows.boot_min ?_),(cM ji T.jo zaO ?_),(mO (c:= "Book") (Sg T) (ait T) (by decide) (Nc T) T.ah3.b aA ?_),(ku zbq ?_ ?_ ?_),(fU 6 qd.nd),(aY (eF T) (aa8 T) (aiv T) (by decide) T.aa0.b aA ?_ ?_),(di (abV T) T.Wb ?_),(aK (eF T) (aa9 T) (aix T) (by decide) T.aa1.b aA ?_),(oR T.oY ?_),(fU 9 qd.nd),(aK (eF T) (aba T) (aiz T) (by decide) T.aa2.b aA ?_),(di (qb T) T.vd ?_),(di (abW T) T.Wc ?_),(aY (eF T) (abb T) (aiD T) (by decide) T.aa3.b aA ?_ ?_),(jx zaF zaT zaU jw gY ?_ ?_),(aY (eF T) (abc T) (aiF T) (by decide) T.aa4.b aA ?_ ?_),(aY (eF T) (abd T) (aiH T) (by decide) T.aa5.b aA ?_ ?_),(Se T.DR ?_),(l7 (n:=3) ?_),(fU 12 qd.nd),(fU 11 qd.nd))
end
theorem zN (c:Nat):Str.length ⟨#[c]⟩=1:=rfl
theorem zO (a b:Str):(a++b).length=a.length+b.length:=by
 have:(a++b).cps.toList.length=a.cps.toList.length+b.cps.toList.length:=by rw[K_,zaf]
 simpa[Str.length] using this
theorem zP (l:List Tr)(m:Nat):pP l none (some (m:Int))=l.take m:=by
 unfold pP;rw[HT.Av,HT.yE,List.drop_zero,Nat.sub_zero];by_cases h:m<=l.length
 ·rw[zcS h]
 ·rw[zcK (by omega),zaN (zah _),zaN (by omega)]
theorem SQ (l:List Tr)(i j:Nat)(h:i<=j):pP l (some (i:Int)) (some (j:Int))=(l.take j).drop i:=by
 unfold pP;simp only[HT.yE];rw[List.drop_take];by_cases h1:i<=l.length
 ·rw[zcS h1]
  by_cases h2:j<=l.length
  ·rw[zcS h2]
  ·rw[zcK (by omega)]
   rw[zaN (by simp),zaN (by simp;omega)]
 ·rw[zbg (as:=l) (i:=i) (by omega),zbg (as:=l) (i:=min i l.length) (by rw[zcK (by omega)];exact zah _)]
  simp
section
variable {x0 x1 x2 x3 x4 x5 x6 x7 x8 x9 h_ gJ v:Tr}
noncomputable abbrev mr (x0 x1 x2 x3 x4 x5 x6:Tr):List (Str×Tr):=[("rules",x0),("sides",x1),("known",x2),("played",x3),("followed",x4),("closed",x5),("balls_told",x6)]
noncomputable abbrev ir (x0 x1 x2 x3 x4 x5 x6 x7 x8 x9 h_ gJ:Tr):List (Str×Tr):=[("side",x0),("facing",x1),("other",x2),("bowler",x3),("ahead",x4),("total",x5),("wickets",x6),("overs",x7),("balls",x8),("ending",x9),("outs",h_),("spells",gJ)]
theorem abY:bX ("rules" : Str) v ([]:List (Str×Tr))=([("rules",v)]:List (Str×Tr)):=by kernel_rfl
theorem abZ:aQ ("rules" : Str) (mr x0 x1 x2 x3 x4 x5 x6)=some x0:=by kernel_rfl
theorem ab0:bX ("sides" : Str) v ([("rules",x0)]:List (Str×Tr))=([("rules",x0),("sides",v)]:List (Str×Tr)):=by kernel_rfl
theorem ab1:aQ ("sides" : Str) (mr x0 x1 x2 x3 x4 x5 x6)=some x1:=by kernel_rfl
theorem ab2:bX ("sides" : Str) v (mr x0 x1 x2 x3 x4 x5 x6)=([("rules",x0),("sides",v),("known",x2),("played",x3),("followed",x4),("closed",x5),("balls_told",x6)]:List (Str×Tr)):=by kernel_rfl
theorem ab3:bX ("known" : Str) v ([("rules",x0),("sides",x1)]:List (Str×Tr))=([("rules",x0),("sides",x1),("known",v)]:List (Str×Tr)):=by kernel_rfl
theorem ab4:aQ ("known" : Str) (mr x0 x1 x2 x3 x4 x5 x6)=some x2:=by kernel_rfl
theorem ab5:bX ("played" : Str) v ([("rules",x0),("sides",x1),("known",x2)]:List (Str×Tr))=([("rules",x0),("sides",x1),("known",x2),("played",v)]:List (Str×Tr)):=by kernel_rfl
theorem ab6:aQ ("played" : Str) (mr x0 x1 x2 x3 x4 x5 x6)=some x3:=by kernel_rfl
theorem ab7:bX ("followed" : Str) v ([("rules",x0),("sides",x1),("known",x2),("played",x3)]:List (Str×Tr))=([("rules",x0),("sides",x1),("known",x2),("played",x3),("followed",v)]:List (Str×Tr)):=by kernel_rfl
theorem ab8:aQ ("followed" : Str) (mr x0 x1 x2 x3 x4 x5 x6)=some x4:=by kernel_rfl
theorem ab9:bX ("followed" : Str) v (mr x0 x1 x2 x3 x4 x5 x6)=([("rules",x0),("sides",x1),("known",x2),("played",x3),("followed",v),("closed",x5),("balls_told",x6)]:List (Str×Tr)):=by kernel_rfl
theorem acd:bX ("closed" : Str) v ([("rules",x0),("sides",x1),("known",x2),("played",x3),("followed",x4)]:List (Str×Tr))=([("rules",x0),("sides",x1),("known",x2),("played",x3),("followed",x4),("closed",v)]:List (Str×Tr)):=by kernel_rfl
theorem ace:aQ ("closed" : Str) (mr x0 x1 x2 x3 x4 x5 x6)=some x5:=by kernel_rfl
theorem acf:bX ("closed" : Str) v (mr x0 x1 x2 x3 x4 x5 x6)=([("rules",x0),("sides",x1),("known",x2),("played",x3),("followed",x4),("closed",v),("balls_told",x6)]:List (Str×Tr)):=by kernel_rfl
theorem acg:bX ("balls_told" : Str) v ([("rules",x0),("sides",x1),("known",x2),("played",x3),("followed",x4),("closed",x5)]:List (Str×Tr))=([("rules",x0),("sides",x1),("known",x2),("played",x3),("followed",x4),("closed",x5),("balls_told",v)]:List (Str×Tr)):=by kernel_rfl
theorem ach:aQ ("balls_told" : Str) (mr x0 x1 x2 x3 x4 x5 x6)=some x6:=by kernel_rfl
theorem aci:aQ ("going" : Str) (mr x0 x1 x2 x3 x4 x5 x6)=none:=by kernel_rfl
theorem acj:aQ ("state" : Str) (mr x0 x1 x2 x3 x4 x5 x6)=none:=by kernel_rfl
theorem ack:aQ ("most_innings" : Str) (mr x0 x1 x2 x3 x4 x5 x6)=none:=by kernel_rfl
theorem acm:aQ ("total_of" : Str) (mr x0 x1 x2 x3 x4 x5 x6)=none:=by kernel_rfl
theorem acn:aQ ("lead_of" : Str) (mr x0 x1 x2 x3 x4 x5 x6)=none:=by kernel_rfl
theorem aco:aQ ("is_done" : Str) (mr x0 x1 x2 x3 x4 x5 x6)=none:=by kernel_rfl
theorem acp:aQ ("next_side" : Str) (mr x0 x1 x2 x3 x4 x5 x6)=none:=by kernel_rfl
theorem acq:aQ ("may_follow" : Str) (mr x0 x1 x2 x3 x4 x5 x6)=none:=by kernel_rfl
theorem acr:aQ ("side_to_start" : Str) (mr x0 x1 x2 x3 x4 x5 x6)=none:=by kernel_rfl
theorem acs:aQ ("start_refusal" : Str) (mr x0 x1 x2 x3 x4 x5 x6)=none:=by kernel_rfl
theorem acu:aQ ("swap_refusal" : Str) (mr x0 x1 x2 x3 x4 x5 x6)=none:=by kernel_rfl
theorem acv:aQ ("follow_refusal" : Str) (mr x0 x1 x2 x3 x4 x5 x6)=none:=by kernel_rfl
theorem acw:aQ ("refusal" : Str) (mr x0 x1 x2 x3 x4 x5 x6)=none:=by kernel_rfl
theorem acy:aQ ("begin" : Str) (mr x0 x1 x2 x3 x4 x5 x6)=none:=by kernel_rfl
theorem acz:aQ ("play_ball" : Str) (mr x0 x1 x2 x3 x4 x5 x6)=none:=by kernel_rfl
theorem acA:aQ ("swap_player" : Str) (mr x0 x1 x2 x3 x4 x5 x6)=none:=by kernel_rfl
theorem acB:aQ ("close" : Str) (mr x0 x1 x2 x3 x4 x5 x6)=none:=by kernel_rfl
theorem acC:aQ ("do" : Str) (mr x0 x1 x2 x3 x4 x5 x6)=none:=by kernel_rfl
theorem acD:aQ ("ending_due" : Str) (mr x0 x1 x2 x3 x4 x5 x6)=none:=by kernel_rfl
theorem acE:aQ ("tell" : Str) (mr x0 x1 x2 x3 x4 x5 x6)=none:=by kernel_rfl
theorem acF:aQ ("innings" : Str) (mr x0 x1 x2 x3 x4 x5 x6)=none:=by kernel_rfl
theorem acG:aQ ("turn" : Str) (mr x0 x1 x2 x3 x4 x5 x6)=none:=by kernel_rfl
theorem acH:aQ ("players" : Str) (mr x0 x1 x2 x3 x4 x5 x6)=none:=by kernel_rfl
theorem acI:aQ ("result" : Str) (mr x0 x1 x2 x3 x4 x5 x6)=none:=by kernel_rfl
theorem acJ:aQ ("log" : Str) (mr x0 x1 x2 x3 x4 x5 x6)=none:=by kernel_rfl
theorem OB:(("Match" : Str)∈(["Match"]:List Str))=True:=eq_true (zaw.mpr rfl)
theorem acK:bX ("side" : Str) v ([]:List (Str×Tr))=([("side",v)]:List (Str×Tr)):=by kernel_rfl
theorem acL:aQ ("side" : Str) (ir x0 x1 x2 x3 x4 x5 x6 x7 x8 x9 h_ gJ)=some x0:=by kernel_rfl
theorem acM:bX ("facing" : Str) v ([("side",x0)]:List (Str×Tr))=([("side",x0),("facing",v)]:List (Str×Tr)):=by kernel_rfl
theorem acN:aQ ("facing" : Str) (ir x0 x1 x2 x3 x4 x5 x6 x7 x8 x9 h_ gJ)=some x1:=by kernel_rfl
theorem acO:bX ("facing" : Str) v (ir x0 x1 x2 x3 x4 x5 x6 x7 x8 x9 h_ gJ)=([("side",x0),("facing",v),("other",x2),("bowler",x3),("ahead",x4),("total",x5),("wickets",x6),("overs",x7),("balls",x8),("ending",x9),("outs",h_),("spells",gJ)]:List (Str×Tr)):=by kernel_rfl
theorem acP:bX ("other" : Str) v ([("side",x0),("facing",x1)]:List (Str×Tr))=([("side",x0),("facing",x1),("other",v)]:List (Str×Tr)):=by kernel_rfl
theorem acQ:aQ ("other" : Str) (ir x0 x1 x2 x3 x4 x5 x6 x7 x8 x9 h_ gJ)=some x2:=by kernel_rfl
theorem acR:bX ("other" : Str) v (ir x0 x1 x2 x3 x4 x5 x6 x7 x8 x9 h_ gJ)=([("side",x0),("facing",x1),("other",v),("bowler",x3),("ahead",x4),("total",x5),("wickets",x6),("overs",x7),("balls",x8),("ending",x9),("outs",h_),("spells",gJ)]:List (Str×Tr)):=by kernel_rfl
theorem acS:bX ("bowler" : Str) v ([("side",x0),("facing",x1),("other",x2)]:List (Str×Tr))=([("side",x0),("facing",x1),("other",x2),("bowler",v)]:List (Str×Tr)):=by kernel_rfl
theorem acT:aQ ("bowler" : Str) (ir x0 x1 x2 x3 x4 x5 x6 x7 x8 x9 h_ gJ)=some x3:=by kernel_rfl
theorem acU:bX ("bowler" : Str) v (ir x0 x1 x2 x3 x4 x5 x6 x7 x8 x9 h_ gJ)=([("side",x0),("facing",x1),("other",x2),("bowler",v),("ahead",x4),("total",x5),("wickets",x6),("overs",x7),("balls",x8),("ending",x9),("outs",h_),("spells",gJ)]:List (Str×Tr)):=by kernel_rfl
theorem acV:bX ("ahead" : Str) v ([("side",x0),("facing",x1),("other",x2),("bowler",x3)]:List (Str×Tr))=([("side",x0),("facing",x1),("other",x2),("bowler",x3),("ahead",v)]:List (Str×Tr)):=by kernel_rfl
theorem acW:aQ ("ahead" : Str) (ir x0 x1 x2 x3 x4 x5 x6 x7 x8 x9 h_ gJ)=some x4:=by kernel_rfl
theorem acX:bX ("ahead" : Str) v (ir x0 x1 x2 x3 x4 x5 x6 x7 x8 x9 h_ gJ)=([("side",x0),("facing",x1),("other",x2),("bowler",x3),("ahead",v),("total",x5),("wickets",x6),("overs",x7),("balls",x8),("ending",x9),("outs",h_),("spells",gJ)]:List (Str×Tr)):=by kernel_rfl
theorem acY:bX ("total" : Str) v ([("side",x0),("facing",x1),("other",x2),("bowler",x3),("ahead",x4)]:List (Str×Tr))=([("side",x0),("facing",x1),("other",x2),("bowler",x3),("ahead",x4),("total",v)]:List (Str×Tr)):=by kernel_rfl
theorem acZ:aQ ("total" : Str) (ir x0 x1 x2 x3 x4 x5 x6 x7 x8 x9 h_ gJ)=some x5:=by kernel_rfl
theorem ac0:bX ("total" : Str) v (ir x0 x1 x2 x3 x4 x5 x6 x7 x8 x9 h_ gJ)=([("side",x0),("facing",x1),("other",x2),("bowler",x3),("ahead",x4),("total",v),("wickets",x6),("overs",x7),("balls",x8),("ending",x9),("outs",h_),("spells",gJ)]:List (Str×Tr)):=by kernel_rfl
theorem ac1:bX ("wickets" : Str) v ([("side",x0),("facing",x1),("other",x2),("bowler",x3),("ahead",x4),("total",x5)]:List (Str×Tr))=([("side",x0),("facing",x1),("other",x2),("bowler",x3),("ahead",x4),("total",x5),("wickets",v)]:List (Str×Tr)):=by kernel_rfl
theorem ac2:aQ ("wickets" : Str) (ir x0 x1 x2 x3 x4 x5 x6 x7 x8 x9 h_ gJ)=some x6:=by kernel_rfl
theorem ac3:bX ("wickets" : Str) v (ir x0 x1 x2 x3 x4 x5 x6 x7 x8 x9 h_ gJ)=([("side",x0),("facing",x1),("other",x2),("bowler",x3),("ahead",x4),("total",x5),("wickets",v),("overs",x7),("balls",x8),("ending",x9),("outs",h_),("spells",gJ)]:List (Str×Tr)):=by kernel_rfl
theorem ac4:bX ("overs" : Str) v ([("side",x0),("facing",x1),("other",x2),("bowler",x3),("ahead",x4),("total",x5),("wickets",x6)]:List (Str×Tr))=([("side",x0),("facing",x1),("other",x2),("bowler",x3),("ahead",x4),("total",x5),("wickets",x6),("overs",v)]:List (Str×Tr)):=by kernel_rfl
theorem ac5:aQ ("overs" : Str) (ir x0 x1 x2 x3 x4 x5 x6 x7 x8 x9 h_ gJ)=some x7:=by kernel_rfl
theorem ac6:bX ("overs" : Str) v (ir x0 x1 x2 x3 x4 x5 x6 x7 x8 x9 h_ gJ)=([("side",x0),("facing",x1),("other",x2),("bowler",x3),("ahead",x4),("total",x5),("wickets",x6),("overs",v),("balls",x8),("ending",x9),("outs",h_),("spells",gJ)]:List (Str×Tr)):=by kernel_rfl
theorem ac7:bX ("balls" : Str) v ([("side",x0),("facing",x1),("other",x2),("bowler",x3),("ahead",x4),("total",x5),("wickets",x6),("overs",x7)]:List (Str×Tr))=([("side",x0),("facing",x1),("other",x2),("bowler",x3),("ahead",x4),("total",x5),("wickets",x6),("overs",x7),("balls",v)]:List (Str×Tr)):=by kernel_rfl
theorem ac8:aQ ("balls" : Str) (ir x0 x1 x2 x3 x4 x5 x6 x7 x8 x9 h_ gJ)=some x8:=by kernel_rfl
theorem ac9:bX ("balls" : Str) v (ir x0 x1 x2 x3 x4 x5 x6 x7 x8 x9 h_ gJ)=([("side",x0),("facing",x1),("other",x2),("bowler",x3),("ahead",x4),("total",x5),("wickets",x6),("overs",x7),("balls",v),("ending",x9),("outs",h_),("spells",gJ)]:List (Str×Tr)):=by kernel_rfl
theorem ada:bX ("ending" : Str) v ([("side",x0),("facing",x1),("other",x2),("bowler",x3),("ahead",x4),("total",x5),("wickets",x6),("overs",x7),("balls",x8)]:List (Str×Tr))=([("side",x0),("facing",x1),("other",x2),("bowler",x3),("ahead",x4),("total",x5),("wickets",x6),("overs",x7),("balls",x8),("ending",v)]:List (Str×Tr)):=by kernel_rfl
theorem adb:aQ ("ending" : Str) (ir x0 x1 x2 x3 x4 x5 x6 x7 x8 x9 h_ gJ)=some x9:=by kernel_rfl
theorem ade:bX ("ending" : Str) v (ir x0 x1 x2 x3 x4 x5 x6 x7 x8 x9 h_ gJ)=([("side",x0),("facing",x1),("other",x2),("bowler",x3),("ahead",x4),("total",x5),("wickets",x6),("overs",x7),("balls",x8),("ending",v),("outs",h_),("spells",gJ)]:List (Str×Tr)):=by kernel_rfl
theorem SR:bX ("outs" : Str) v ([("side",x0),("facing",x1),("other",x2),("bowler",x3),("ahead",x4),("total",x5),("wickets",x6),("overs",x7),("balls",x8),("ending",x9)]:List (Str×Tr))=([("side",x0),("facing",x1),("other",x2),("bowler",x3),("ahead",x4),("total",x5),("wickets",x6),("overs",x7),("balls",x8),("ending",x9),("outs",v)]:List (Str×Tr)):=by kernel_rfl
theorem SS:aQ ("outs" : Str) (ir x0 x1 x2 x3 x4 x5 x6 x7 x8 x9 h_ gJ)=some h_:=by kernel_rfl
theorem SV:bX ("outs" : Str) v (ir x0 x1 x2 x3 x4 x5 x6 x7 x8 x9 h_ gJ)=([("side",x0),("facing",x1),("other",x2),("bowler",x3),("ahead",x4),("total",x5),("wickets",x6),("overs",x7),("balls",x8),("ending",x9),("outs",v),("spells",gJ)]:List (Str×Tr)):=by kernel_rfl
theorem SW:bX ("spells" : Str) v ([("side",x0),("facing",x1),("other",x2),("bowler",x3),("ahead",x4),("total",x5),("wickets",x6),("overs",x7),("balls",x8),("ending",x9),("outs",h_)]:List (Str×Tr))=([("side",x0),("facing",x1),("other",x2),("bowler",x3),("ahead",x4),("total",x5),("wickets",x6),("overs",x7),("balls",x8),("ending",x9),("outs",h_),("spells",v)]:List (Str×Tr)):=by kernel_rfl
theorem SX:aQ ("spells" : Str) (ir x0 x1 x2 x3 x4 x5 x6 x7 x8 x9 h_ gJ)=some gJ:=by kernel_rfl
theorem SY:bX ("spells" : Str) v (ir x0 x1 x2 x3 x4 x5 x6 x7 x8 x9 h_ gJ)=([("side",x0),("facing",x1),("other",x2),("bowler",x3),("ahead",x4),("total",x5),("wickets",x6),("overs",x7),("balls",x8),("ending",x9),("outs",h_),("spells",v)]:List (Str×Tr)):=by kernel_rfl
theorem adf:aQ ("stands" : Str) (ir x0 x1 x2 x3 x4 x5 x6 x7 x8 x9 h_ gJ)=none:=by kernel_rfl
theorem adg:aQ ("has_gap" : Str) (ir x0 x1 x2 x3 x4 x5 x6 x7 x8 x9 h_ gJ)=none:=by kernel_rfl
theorem adh:aQ ("has_left" : Str) (ir x0 x1 x2 x3 x4 x5 x6 x7 x8 x9 h_ gJ)=none:=by kernel_rfl
theorem adi:aQ ("change_ends" : Str) (ir x0 x1 x2 x3 x4 x5 x6 x7 x8 x9 h_ gJ)=none:=by kernel_rfl
theorem adj:aQ ("leave" : Str) (ir x0 x1 x2 x3 x4 x5 x6 x7 x8 x9 h_ gJ)=none:=by kernel_rfl
theorem adk:aQ ("come_in" : Str) (ir x0 x1 x2 x3 x4 x5 x6 x7 x8 x9 h_ gJ)=none:=by kernel_rfl
theorem adl:aQ ("bowl_next" : Str) (ir x0 x1 x2 x3 x4 x5 x6 x7 x8 x9 h_ gJ)=none:=by kernel_rfl
theorem adm:aQ ("out_by" : Str) (ir x0 x1 x2 x3 x4 x5 x6 x7 x8 x9 h_ gJ)=none:=by kernel_rfl
theorem adn:aQ ("fall" : Str) (ir x0 x1 x2 x3 x4 x5 x6 x7 x8 x9 h_ gJ)=none:=by kernel_rfl
theorem ado:aQ ("count_fair" : Str) (ir x0 x1 x2 x3 x4 x5 x6 x7 x8 x9 h_ gJ)=none:=by kernel_rfl
theorem adp:aQ ("play" : Str) (ir x0 x1 x2 x3 x4 x5 x6 x7 x8 x9 h_ gJ)=none:=by kernel_rfl
theorem adq:aQ ("rename" : Str) (ir x0 x1 x2 x3 x4 x5 x6 x7 x8 x9 h_ gJ)=none:=by kernel_rfl
theorem Eg:(("Innings" : Str)∈(["Innings"]:List Str))=True:=eq_true (zaw.mpr rfl)
end
def fx:=jp @abY<|jp @abZ<|jp @ab0<|jp @ab1<|jp @ab2<|jp @ab3<|jp @ab4<|jp @ab5<|jp @ab6<|jp @ab7<|jp @ab8<|jp @ab9<|jp @acd<|jp @ace<|jp @acf<|jp @acg<|jp @ach<|jp @OB<|jp @aci<|jp @acj<|jp @ack<|jp @acm<|jp @acn<|jp @aco<|jp @acp<|jp @acq<|jp @acr<|jp @acs<|jp @acu<|jp @acv<|jp @acw<|jp @acy<|jp @acz<|jp @acA<|jp @acB<|jp @acC<|jp @acD<|jp @acE<|jp @acF<|jp @acG<|jp @acH<|jp @acI<|jp @acJ<|jp @acK<|jp @acL<|jp @acM<|jp @acN<|jp @acO<|jp @acP<|jp @acQ<|jp @acR<|jp @acS<|jp @acT<|jp @acU<|jp @acV<|jp @acW<|jp @acX<|jp @acY<|jp @acZ<|jp @ac0<|jp @ac1<|jp @ac2<|jp @ac3<|jp @ac4<|jp @ac5<|jp @ac6<|jp @ac7<|jp @ac8<|jp @ac9<|jp @ada<|jp @adb<|jp @ade<|jp @SR<|jp @SS<|jp @SV<|jp @SW<|jp @SX<|jp @SY<|jp @Eg<|jp @adf<|jp @adg<|jp @adh<|jp @adi<|jp @adj<|jp @adk<|jp @adl<|jp @adm<|jp @adn<|jp @ado<|jp @adp<|jp @adq<|@RD
noncomputable def aD (t0 t1:Str)(p0 p1:List Str):Tr:=.ls [.tp [.str t0,.ls (p0.map .str)],.tp [.str t1,.ls (p1.map .str)]]
structure U where
 o:Int
 v:Int
 s:Int
 w:Int
 n:Int
 d:Int
 i:Int
 f:Int
noncomputable def U.t (u:U):Tr:=.tp [.int u.o,.int u.v,.int u.s,.int u.w,.int u.n,.int u.d,.int u.i,.int u.f]
structure I where
 bZ:Int
 m_:Str
 qe:Str
 vG:Str
 Xo:Str
 Cf:Int
 wk:Int
 ov:Int
 ba:Int
 en:Str
 outs:List Str
 gD:List (Str×Int)
structure M where
 ru:U
 t0:Str
 t1:Str
 p0:List Str
 p1:List Str
 kn:List Str
 pl:List I
 Xp:Bool
 clo:Bool
 gG:List Tr
structure L3 where
 i:Nat
 o:Nat
 s:Nat
structure Ly where
 a:Nat
 k:Nat
 p:Nat
 l:Nat
 cs:List L3
noncomputable def iM (x:I)(c:L3):List (Str×Tr):=[("side",.int x.bZ),("facing",.str x.m_),("other",.str x.qe),("bowler",.str x.vG),("ahead",.str x.Xo),("total",.int x.Cf),("wickets",.int x.wk),("overs",.int x.ov),("balls",.int x.ba),("ending",.str x.en),("outs",.hd c.o),("spells",.hd c.s)]
noncomputable def gZ (l:List Str):List (dJ×Tr):=l.map λk=>(.inr k,.bl true)
noncomputable def rH (l:List (Str×Int)):List (dJ×Tr):=l.map λp=>(.inr p.1,.int p.2)
structure gO (S:Cs) (x:I) (c:L3):Prop where
 i:S[c.i]? = some (.d_ "Innings" (iM x c))
 o:S[c.o]? = some (.jt (gZ x.outs))
 s:S[c.s]? = some (.jt (rH x.gD))
structure Dj (c:L3):Prop where
 io:c.i≠c.o
 is:c.i≠c.s
 os:c.o≠c.s
noncomputable def jP (S:Cs)(x:I)(c:L3):Cs:=((S.set c.i (.d_ "Innings" (iM x c))).set c.o (.jt (gZ x.outs))).set c.s (.jt (rH x.gD))
theorem aH {S:Cs}{n:Nat}{c:Ce}(h:S[n]? = some c):n<S.length:=(zab.mp h).1
theorem bR {S:Cs}{n:Nat}{c:Ce}(h:n<S.length):(S.set n c)[n]? = some c:=zaB h
theorem cR {S:Cs}{n k:Nat}{c:Ce}(h:¬ n=k):(S.set n c)[k]? = S[k]?:= zaA h
theorem d8 {S:Cs}{n:Nat}{c d:Ce}:(S.set n c).set n d=S.set n d:=List.set_set ..
theorem kJ {S:Cs}{x y:I}{c:L3}(h:gO S x c)(d:Dj c):gO (jP S y c) y c where
 i:=by
  unfold jP;rw[cR d.is.symm,cR d.io.symm,bR (aH h.i)]
 o:=by
  unfold jP;rw[cR d.os.symm,bR (by rw[zcO];exact aH h.o)]
 s:=by
  unfold jP;rw[bR (by rw[zcO,zcO];exact aH h.s)]
theorem mX {S:Cs}{x y:I}{c:L3}(d:Dj c):jP (jP S x c) y c=jP S y c:=by
 unfold jP;rw[zdn (i:=c.s) (j:=c.i) _ _ d.is.symm,zdn (i:=c.o) (j:=c.i) _ _ d.io.symm,d8,zdn (i:=c.s) (j:=c.o) _ _ d.os.symm,d8,d8]
theorem kY {S:Cs}{x y:I}{c:L3}(h:gO S x c)(d:Dj c)(ho:y.outs=x.outs)(hs:y.gD=x.gD):S.set c.i (.d_ "Innings" (iM y c))=jP S y c:=by
 unfold jP;rw[ho,hs,iW (i:=c.o) (by rw[cR d.io];exact h.o),iW (i:=c.s) (by rw[cR d.is];exact h.s)]
theorem fZ {x:Str}{l:List Str}:JP (.str x) (l.map .str)=decide (x∈l):=by
 rw[zbh];simp only[JP,zcz,zcI,Function.comp,Pd,beq_iff_eq,decide_eq_true_eq];exact⟨λ⟨y,h,e⟩=>e ▸ h,λh=>⟨x,h,rfl⟩⟩
theorem in2:JP (.str x) [.str a,.str b]=decide (x=a\/x=b):=by
 rw[zbh];simp only[JP,zbZ,zeC,Pd,zej,zdL,decide_eq_true_eq,beq_iff_eq];exact⟨λh=>h.imp zcD zcD,λh=>h.imp zcD zcD⟩
theorem S8:JP (.str x) [.str a,.str b,.str c]=decide (x=a\/x=b\/x=c):=by
 rw[zbh];simp only[JP,zbZ,zeC,Pd,zej,zdL,decide_eq_true_eq,beq_iff_eq];exact⟨λh=>h.imp zcD (·.imp zcD zcD),λh=>h.imp zcD (·.imp zcD zcD)⟩
theorem bJ:fK (.str s)=true:=rfl
theorem f9 {l:List Str}:(l.map Tr.str).all fK=true:=by
 rw[zaS];intro x hx;obtain⟨s,_,rfl⟩:=zbl.mp hx;rfl
theorem jQ:∀{l:List Str},(aQ (.inr k) (gZ l)).isSome=decide (k∈l)
 |[]=>rfl
 |a::r=>by
  unfold gZ;rw[tK];unfold aQ;by_cases h:a=k
  ·subst h;rw[if_pos rfl];simp
  ·rw[if_neg (λz=>h (zde z))]
   have:=jQ (k:=k) (l:=r)
   unfold gZ at this;rw[this];simp[zao,zbd h]
noncomputable def I.d9 (x:I)(n:Str):Bool:=decide (n=x.m_\/n=x.qe)
noncomputable def I.Xq (x:I):Bool:=x.d9 ""
noncomputable def I.left (x:I)(ps:List Str):Bool:=ps.any λn=>!decide (n∈x.outs) && !x.d9 n
noncomputable def I.swap (x:I):I:={x with m_:=x.qe,qe:=x.m_}
noncomputable def I.gz (x:I)(n:Str):I:=if x.m_=n then { x with m_:= "" } else { x with qe:= "" }
noncomputable def I.Cg (x:I)(n:Str):I:=if x.m_="" then {x with m_:=n} else {x with qe:=n}
section
variable {S:Cs}{x:I}{c:L3}
theorem jR (h:gO S x c)(n:Str):o7 [.hd c.i,.str n] S = .ok (.bl (x.d9 n)) S:=by
 unfold o7 I.d9;have hi:=h.i;unfold iM at hi;simp?[fx,hi,zau,zax,bJ,zay,in2]
theorem OC (h:gO S x c):yf [.hd c.i] S = .ok (.bl x.Xq) S:=by
 unfold yf I.Xq;have e:=jR h ""
 have hi:=h.i;unfold iM at hi;simp?[fx,hi,e]
theorem Eh (h:gO S x c)(d:Dj c):yg [.hd c.i] S = .ok .bu (jP S x.swap c):=by
 unfold yg;rw[<-kY (y:=x.swap) h d rfl rfl];have hl:=aH h.i;have hi:=h.i;unfold iM at *
 simp?[fx,hi,hl,bR,d8,I.swap]
theorem G3 (h:gO S x c)(d:Dj c)(n:Str):B_ [.hd c.i,.str n] S = .ok .bu (jP S (x.gz n) c):=by
 unfold B_ I.gz;have hl:=aH h.i;have hi:=h.i;by_cases hn:x.m_=n
 ·rw[if_pos hn,<-kY (x:=x) (y:={ x with m_:= "" }) h d rfl rfl]
  unfold iM at *
  simp?[fx,hi,hl,bR,d8,hn]
 ·rw[if_neg hn,<-kY (x:=x) (y:={ x with qe:= "" }) h d rfl rfl]
  unfold iM at *
  simp?[fx,hi,hl,bR,d8,hn]
theorem ads (h:gO S x c)(d:Dj c)(n:Str):GQ [.hd c.i,.str n] S = .ok .bu (jP S (x.Cg n) c):=by
 unfold GQ I.Cg;have hl:=aH h.i;have hi:=h.i;by_cases hn:x.m_=""
 ·rw[if_pos hn,<-kY (x:=x) (y:={x with m_:=n}) h d rfl rfl]
  unfold iM at *
  simp?[fx,hi,hl,bR,d8,hn]
 ·rw[if_neg hn,<-kY (x:=x) (y:={x with qe:=n}) h d rfl rfl]
  unfold iM at *
  simp?[fx,hi,hl,bR,d8,hn]
end
structure B where
 k:Str
 r:Int
 rp:Bool
 w:Str
 who:Str
 en:Str
noncomputable def B.t (b:B):Tr:=.tp [.str "ball",.str b.k,.int b.r,.bl b.rp,.str b.w,.str b.who,.str b.en]
noncomputable def dg:Option Str->Tr|none=>.bu|some s=>.str s
noncomputable def G4 (k:Str)(r:Int):Bool:=if r=4 then true else if r=6 then decide (k="bat" \/ k="no") else false
noncomputable def OD (k:Str)(r:Int)(rp:Bool)(w:Str):Bool:=if w="" then true else if rp=true then false else if w="run" then true else if r≠0 then false else if w="stumped" \/ w="hit" then decide (k="bat" \/ k="wide") else decide (k="bat")
noncomputable def B.yh (b:B):Option Str:=if (b.rp && !G4 b.k b.r)=true then some "rope" else if OD b.k b.r b.rp b.w=true then none else some "way"
theorem adt (k:Str)(r:Int)(S:Cs):Gz [.str k,.int r] S = .ok (.bl (G4 k r)) S:=by
 unfold Gz G4;simp?[zau,zax,bJ,zay,in2]
theorem aiK (k:Str)(r:Int)(rp:Bool)(w:Str)(S:Cs):GA [.str k,.int r,.bl rp,.str w] S = .ok (.bl (OD k r rp w)) S:=by
 unfold GA OD;by_cases h1:w=""
 ·simp?[h1]
 ·cases rp with
  |true=>simp?[h1]
  |false =>
   by_cases h2:w="run"
   ·simp?[fx,h2]
   ·by_cases h3:r=0
    ·by_cases h4:w="stumped" \/ w="hit"
     ·simp?[fx,h1,h2,h3,h4,zau,zax,bJ,zay,in2,ne_eq]
     ·simp?[fx,h1,h2,h3,h4,zau,zax,bJ,zay,in2,ne_eq]
    ·simp?[fx,h1,h2,h3,ne_eq]
theorem S9 (b:B)(S:Cs):GB [b.t] S = .ok (dg b.yh) S:=by
 unfold GB B.t B.yh;have e1:=λS=>adt b.k b.r S
 have e2:=λS=>aiK b.k b.r b.rp b.w S
 obtain⟨k,r,rp,w,who,en⟩:=b;simp only at e1 e2 ⊢
 cases rp with
 |false =>
  cases h2:OD k r false w<;>simp?[e1,e2,h2,dg,zcZ]
 |true =>
  cases h1:G4 k r
  ·simp?[e1,e2,h1,dg,zdo]
  ·cases h2:OD k r true w<;>simp?[e1,e2,h1,h2,dg,zdo]
structure By where
 Ei:Int
 ext:Int
 cha:Int
noncomputable def S_ (u:U)(k:Str)(r:Int):By:=if k="bat" then ⟨r,0,r⟩ else if k="wide" then ⟨0,u.w+r,u.w+r⟩ else if k="no" then ⟨r,u.n,u.n+r⟩ else if k="nobye" then ⟨0,u.n+r,u.n⟩ else ⟨0,r,0⟩
noncomputable def qL (k:Str):Bool:=decide (k="bat" \/ k="bye" \/ k="leg")
noncomputable def nR (r:Int)(rp:Bool):Bool:=if r % 2=1 then !rp else false
noncomputable def Xr (w:Str):Bool:=!decide (w="" \/ w="run")
noncomputable def B.Tc (u:U)(b:B):Int:=(S_ u b.k b.r).Ei+(S_ u b.k b.r).ext
noncomputable def B.IW (u:U)(b:B):Tr:=.tp [.int (b.Tc u),.int (S_ u b.k b.r).Ei,.int (S_ u b.k b.r).ext,.int (S_ u b.k b.r).cha,.bl (qL b.k),.bl (!decide (b.k="wide")),.bl (nR b.r b.rp),.bl (Xr b.w)]
theorem amK (u:U)(k:Str)(r:Int)(S:Cs):GI [u.t,.str k,.int r] S = .ok (.tp [.int (S_ u k r).Ei,.int (S_ u k r).ext,.int (S_ u k r).cha]) S:=by
 unfold GI U.t S_;by_cases h1:k="bat"
 ·simp?[fx,h1]
 ·by_cases h2:k="wide"
  ·simp?[fx,h2]
  ·by_cases h3:k="no"
   ·simp?[fx,h3]
   ·by_cases h4:k="nobye"
    ·simp?[fx,h4]
    ·simp?[fx,h1,h2,h3,h4]
theorem adu (u:U)(b:B)(S:Cs):GJ [u.t,b.t] S = .ok (b.IW u) S:=by
 unfold GJ B.IW B.Tc B.t qL nR Xr;have e1:=λS=>amK u b.k b.r S
 unfold U.t at *
 simp?[e1,zau,zax,bJ,zay,in2,S8]
noncomputable def I.Dp (x:I)(b:B):Str:=if b.w="run" then b.who else if b.w="" then "" else x.m_
section
variable {S:Cs}{x:I}{c:L3}
theorem Td (h:gO S x c)(b:B):GK [.hd c.i,b.t] S = .ok (.str (x.Dp b)) S:=by
 unfold GK I.Dp B.t;have hi:=h.i;unfold iM at hi;by_cases h1:b.w="run"
 ·simp?[fx,hi,h1]
 ·by_cases h2:b.w="" <;> simp?[fx,hi,h1,h2]
end
noncomputable def gA (l:List Str)(n:Str):List Str:=if n∈l then l else l++[n]
noncomputable def i6 (l:List (Str×Int))(n:Str):Int:=match l with|[]=>0 | (k,v)::r=>if k=n then v else i6 r n
noncomputable def l_ (l:List (Str×Int))(n:Str)(v:Int):List (Str×Int):=if (l.any λp=>decide (p.1=n))=true then l.map (λp=>if p.1=n then (p.1,v) else p) else l++[(n,v)]
theorem Ci:kR (gZ l) (.inr n) (.bl true)=gZ (gA l n):=by
 unfold kR gA;have h1:((gZ l).any λkv=>decide (kv.1=(.inr n:dJ)))=decide (n∈l):=by
  unfold gZ;rw[zcz,zbh,zcI];simp only[Function.comp,decide_eq_true_eq];exact⟨λ⟨x,h,e⟩=>zde e ▸ h,λh=>⟨n,h,rfl⟩⟩
 rw[h1];by_cases h:n∈l
 ·rw[if_pos (decide_eq_true h),if_pos h]
  unfold gZ;rw[zbt];apply zcq
  intro x hx;simp only[Function.comp];split<;>rfl
 ·rw[if_neg (by simpa using h),if_neg h]
  unfold gZ;rw[zaK];rfl
theorem rJ:∀{l:List (Str×Int)},(aQ (.inr n) (rH l)).getD (.int 0) = .int (i6 l n)
 |[]=>rfl
 | (k,v)::r=>by
  unfold rH;rw[tK];unfold aQ i6;by_cases h:k=n
  ·subst h;rw[if_pos rfl,if_pos rfl];rfl
  ·rw[if_neg (λz=>h (zde z)),if_neg h]
   exact rJ (n:=n) (l:=r)
theorem G5:kR (rH l) (.inr n) (.int v)=rH (l_ l n v):=by
 unfold kR l_;have h1:((rH l).any λkv=>decide (kv.1=(.inr n:dJ)))=l.any λp=>decide (p.1=n):=by
  unfold rH;rw[zcz];congr 1
  funext p
  simp only[Function.comp,Sum.inr.injEq]
 rw[h1];split
 ·unfold rH
  rw[zbt,zbt];apply zcq
  intro x hx;simp only[Function.comp,Sum.inr.injEq];split<;>rfl
 ·unfold rH
  rw[zaK];rfl
theorem OE:(gZ l).length=l.length:=by unfold gZ;simp
theorem Te:(rH l).length=l.length:=by unfold rH;simp
noncomputable def I.yi (x:I)(n:Str):I:={x with vG:=n,gD:=l_ x.gD n (i6 x.gD n+1)}
noncomputable def I.vP (x:I)(n e:Str):I:=
 let y:=({x with outs:=gA x.outs n,wk:=x.wk+1}:I).gz n
 if (if y.m_="" then "strike" else "other")=e then y else y.swap
noncomputable def I.vQ (x:I)(o:Int):I:=if o<=x.ba+1 then { x with ov:=x.ov+1,ba:=0,m_:=x.qe,qe:=x.m_,Xo:=x.vG,vG:= "" } else {x with ba:=x.ba+1}
noncomputable def I.o8 (u:U)(x:I)(b:B):I:=
 let x1:I:={x with Cf:=x.Cf+b.Tc u}
 let x2:=if nR b.r b.rp=true then x1.swap else x1
 let x3:=if x.Dp b="" then x2 else x2.vP (x.Dp b) (if b.w="run" then b.en else "strike")
 if qL b.k=true then x3.vQ u.o else x3
section
variable {S:Cs}{x:I}{c:L3}
theorem Tf (h:gO S x c)(d:Dj c)(n:Str)(hl:x.gD.length<=1000):GR [.hd c.i,.str n] S = .ok .bu (jP S (x.yi n) c):=by
 unfold GR;have hi:=h.i;have hs:=h.s;have Uy:=aH h.i;have hz:(x.gD.length<sizeLine)=True:=g_ (by omega)
 have e:((S.set c.i (.d_ "Innings" (iM {x with vG:=n} c))).set c.s (.jt (rH (l_ x.gD n (i6 x.gD n+1)))))=jP S (x.yi n) c:=by
  unfold jP I.yi;rw[iW (i:=c.o) (l:=S.set c.i _) (by rw[cR d.io];exact h.o)]
  rfl
 unfold iM at hi e;simp only[↓bp,bx,simprocAttr,fx,hi,hs,Uy,bR,d8,cR d.is,d.is,d.is.symm,ne_eq,zbD,rJ,G5,Te,hz] at e ⊢
 rw[e]
theorem adv (h:gO S x c)(d:Dj c)(n en:Str)(hl:x.outs.length<=1000):GL [.hd c.i,.str n,.str en] S = .ok .bu (jP S (x.vP n en) c):=by
 unfold GL;have hi:=h.i;have ho:=h.o;have hol:=aH h.o;have hz:(x.outs.length<sizeLine)=True:=g_ (by omega)
 generalize hy:({x with outs:=gA x.outs n,wk:=x.wk+1}:I)=y
 have e:((S.set c.o (.jt (gZ (gA x.outs n)))).set c.i (.d_ "Innings" (iM {x with wk:=x.wk+1} c)))=jP S y c:=by
  rw[<-hy];unfold jP;rw[zdn _ _ d.io,iW (i:=c.s) (by rw[cR d.is,cR d.os];exact h.s)]
  rfl
 have hY:=kJ (y:=y) h d
 have e1:=G3 hY d n;rw[mX d] at e1;have hZ:=kJ (y:=y.gz n) h d
 have hzi:=hZ.i;have e2:=Eh hZ d;rw[mX d] at e2;have OF:=hY.i;have ef:x.vP n en=if (if (y.gz n).m_="" then "strike" else "other")=en then y.gz n else (y.gz n).swap:=by unfold I.vP;rw[hy]
 rw[ef];generalize y.gz n=z at *
 unfold iM at hi e hzi OF;simp only[↓bp,bx,simprocAttr,fx,hi,ho,hol,bR,d8,cR d.io.symm,d.io,d.io.symm,ne_eq,Ci,OE,hz] at e ⊢
 simp?[fx,e,e1,OF,hzi];by_cases hf:z.m_=""
 ·by_cases he:en="strike"
  ·subst he;simp?[fx,hf]
  ·have IX:¬ "strike"=en:=λq=>he q.symm
   simp?[fx,hf,IX,hzi,e2]
 ·by_cases he:en="other"
  ·subst he;simp?[fx,hf]
  ·have IX:¬ "other"=en:=λq=>he q.symm
   simp?[fx,hf,IX,hzi,e2]
theorem adw (h:gO S x c)(d:Dj c)(o:Int):GN [.hd c.i,.int o] S = .ok .bu (jP S (x.vQ o) c):=by
 unfold GN I.vQ;have hi:=h.i;have Uy:=aH h.i;by_cases ho:o<=x.ba+1
 ·rw[if_pos ho]
  generalize hy:({x with ov:=x.ov+1,ba:=0}:I)=y
  have e:=kY (y:=y) h d (by rw[<-hy]) (by rw[<-hy])
  have hY:=kJ (y:=y) h d
  have e1:=Eh hY d;rw[mX d] at e1;have OF:=hY.i;have hZ:=kJ (y:=y.swap) h d
  have hZi:=hZ.i;have hZl:=aH hZ.i;have e2:=kY (y:={ y.swap with Xo:=y.vG,vG:= "" }) hZ d rfl rfl
  rw[mX d] at e2;subst hy;unfold iM at hi e OF hZi e2;simp only[I.swap] at e1 hZi hZl e2 ⊢
  have vD:¬ x.ba+1<o:=by omega
  simp?[fx,hi,Uy,bR,d8,ho,ge_iff_le,e,e1,OF,hZi,hZl,e2]
 ·rw[if_neg ho]
  have e:=kY (y:={x with ba:=x.ba+1}) h d rfl rfl
  have OF:=(kJ (y:={x with ba:=x.ba+1}) h d).i
  unfold iM at hi e OF;simp?[fx,hi,Uy,bR,d8,ho,ge_iff_le,e,OF]
theorem ady (h:gO S x c)(d:Dj c)(u:U)(b:B)(hl:x.outs.length<=1000):GO [.hd c.i,u.t,b.t] S = .ok (.str (x.Dp b)) (jP S (x.o8 u b) c):=by
 have e1:=adu u b S;have e2:=Td h b;have hi:=h.i;have e3:=kY (y:=({x with Cf:=x.Cf+b.Tc u}:I)) h d rfl rfl
 obtain⟨y,hy⟩:∃y:I,y = {x with Cf:=x.Cf+b.Tc u}:=⟨_,rfl⟩
 obtain⟨z,hz⟩:∃z,z=if nR b.r b.rp=true then y.swap else y:=⟨_,rfl⟩
 obtain⟨w,hw⟩:∃w,w=if x.Dp b="" then z else z.vP (x.Dp b) (if b.w="run" then b.en else "strike"):=⟨_,rfl⟩
 have hp:x.o8 u b=if qL b.k=true then w.vQ u.o else w:=by
  unfold I.o8;simp only[hw,hz,hy]
 have hzo:z.outs=x.outs:=by rw[hz,hy];split<;>rfl
 have hY:=kJ (y:=y) h d
 have hZ:=kJ (y:=z) h d
 have hW:=kJ (y:=w) h d
 have e4:=Eh hY d;have e5:=λn en=>adv hZ d n en (by rw[hzo];exact hl)
 have e6:=adw hW d u.o;rw[mX d] at e4 e6;simp only[mX d] at e5;have OF:=hY.i;have hZi:=hZ.i;have hWi:=hW.i;have g0:∀S,bG (b.IW u) (.int 0) S = .ok (.int (b.Tc u)) S:=λ_=>rfl
 have g6:∀S,bG (b.IW u) (.int 6) S = .ok (.bl (nR b.r b.rp)) S:=λ_=>rfl
 have g4:∀S,bG (b.IW u) (.int 4) S = .ok (.bl (qL b.k)) S:=λ_=>rfl
 have gu:∀S,bG u.t (.int 0) S = .ok (.int u.o) S:=λ_=>rfl
 have gw:∀S,bG b.t (.int 4) S = .ok (.str b.w) S:=λ_=>rfl
 have ge:∀S,bG b.t (.int 6) S = .ok (.str b.en) S:=λ_=>rfl
 rw[hp];unfold iM at hi e3 OF hZi hWi;dsimp only at e3
 rw[<-hy] at e3;clear hp hzo hY hZ hW hy hl
 unfold GO;generalize x.Dp b=o at *
 generalize b.IW u=sT at *
 generalize u.t=uT at *
 generalize b.t=bT at *
 generalize b.Tc u=gt at *
 generalize hI1:cO (mB (ai bG (aa 3) (mC (.int 6)))) _ _=I1
 generalize hI2:cO (mB (ai (cX true) (aa 4) (mC (.str "")))) _ _=I2
 generalize hI3:cO (mB (ai bG (aa 3) (mC (.int 4)))) _ _=I3
 have k1:I1 [some (.hd c.i),some uT,some bT,some sT,some (.str o)] (jP S y c) = .nx [some (.hd c.i),some uT,some bT,some sT,some (.str o)] (jP S z c):=by
  rw[<-hI1,hz];cases hcr:nR b.r b.rp<;>rw[hcr] at g6<;>simp?[fx,↓g6,OF,e4]
 have k2:I2 [some (.hd c.i),some uT,some bT,some sT,some (.str o)] (jP S z c) = .nx [some (.hd c.i),some uT,some bT,some sT,some (.str o)] (jP S w c):=by
  rw[<-hI2,hw];by_cases ho:o=""
  ·simp?[fx,ho]
  ·by_cases hr:b.w="run"
   ·rw[hr] at gw
    simp?[fx,ho,hr,↓gw,↓ge,hZi,e5]
   ·simp?[fx,ho,hr,↓gw,hZi,e5]
 have k3:I3 [some (.hd c.i),some uT,some bT,some sT,some (.str o)] (jP S w c) = .nx [some (.hd c.i),some uT,some bT,some sT,some (.str o)] (jP S (if qL b.k=true then w.vQ u.o else w) c):=by
  rw[<-hI3];cases hf:qL b.k<;>rw[hf] at g4<;>simp?[fx,↓g4,↓gu,hWi,e6]
 generalize jP S (if qL b.k=true then w.vQ u.o else w) c=SF at *
 simp?[fx,e1,e2,hi,↓g0,e3,k1,k2,k3]
end
inductive bE where
 |cS (t f o b:Str)|nU (b:B)|qf (n:Str)|nV (n:Str)|nW (n:Str)|swap (a b:Str)|eV|gB|jS
noncomputable def bE.t:bE->Tr
 |.cS t f o b=>.tp [.str "start",.str t,.str f,.str o,.str b]
 |.nU b=>b.t
 |.qf n=>.tp [.str "in",.str n]
 |.nV n=>.tp [.str "bowl",.str n]
 |.nW n=>.tp [.str "hurt",.str n]
 |.swap a b=>.tp [.str "swap",.str a,.str b]
 |.eV=>.tp [.str "declare"]
 |.gB=>.tp [.str "follow"]
 |.jS=>.tp [.str "close"]
noncomputable def nv (l:List Str):Tr:=.ls (l.map .str)
noncomputable def I.mY (x:I)(b:B):Option Str:=if x.Xq=true then some "empty" else if x.vG="" then some "bowler" else match b.yh with|some f=>some f|none=>if b.w="run" /\ x.d9 b.who=false then some "who" else none
noncomputable def I.Cj (x:I)(Ei:List Str)(n:Str):Option Str:=if x.Xq=false then some "full" else if n∉Ei then some "team" else if n∈x.outs then some "out" else if x.d9 n=true then some "there" else none
noncomputable def I.o9 (x:I)(OG:List Str)(sp:Int)(n:Str):Option Str:=if x.vG ≠ "" then some "bowling" else if n∉OG then some "team" else if n=x.Xo then some "twice" else if 0<sp/\sp<=i6 x.gD n then some "spell" else none
noncomputable def I.mh (x:I)(u:U)(Ei OG:List Str):bE->Option Str
 |.nU b=>x.mY b
 |.qf n=>x.Cj Ei n
 |.nV n=>x.o9 OG u.s n
 |.nW n=>if x.d9 n=true then none else some "who"
 |_=>none
theorem Ck {α:Type}(f:α -> Bool):∀l:List α,qE (l.map λa=>.bl (f a))=some (l.map f)
 |[]=>rfl
 |a::r=>by rw[tK];unfold qE;rw[Ck f r];rfl
theorem Cm {α:Type}(f:α -> Int):∀l:List α,qD (l.map λa=>.int (f a))=some (l.map f)
 |[]=>rfl
 |a::r=>by rw[tK];unfold qD;rw[Cm f r];rfl
section
variable {S:Cs}{x:I}{c:L3}
theorem IY (h:gO S x c)(b:B):GC [.hd c.i,b.t] S = .ok (dg (x.mY b)) S:=by
 unfold GC I.mY;have e1:=OC h;have e2:=S9 b S;have e3:=λn=>jR h n
 have hi:=h.i;unfold iM at hi;cases hg:x.Xq
 ·by_cases hb:x.vG=""
  ·simp?[fx,hi,e1,hg,hb,dg]
  ·cases hf:b.yh with
   |some f=>unfold B.t at *;simp?[fx,hi,e1,hg,hb,e2,hf,dg]
   |none =>
    by_cases hr:b.w="run"
    ·unfold B.t at *
     rw[hr] at e2;cases hs:x.d9 b.who<;>simp?[fx,hi,e1,hg,hb,e2,hf,dg,hr,e3,hs]
    ·unfold B.t at *;simp?[fx,hi,e1,hg,hb,e2,hf,dg,hr]
 ·simp?[fx,hi,e1,hg,dg]
theorem Tg (h:gO S x c)(Ei:List Str)(n:Str):GD [.hd c.i,nv Ei,.str n] S = .ok (dg (x.Cj Ei n)) S:=by
 unfold GD I.Cj nv;have e1:=OC h;have e3:=λn=>jR h n
 have hi:=h.i;have ho:=h.o;unfold iM at hi;cases hg:x.Xq
 ·simp?[fx,hi,e1,hg,dg]
 ·by_cases hb:n∈Ei
  ·by_cases hn:n∈x.outs
   ·simp?[fx,hi,ho,e1,hg,hb,hn,f9,bJ,fZ,jQ,dg]
   ·cases hs:x.d9 n<;>simp?[fx,hi,ho,e1,e3,hg,hb,hn,hs,f9,bJ,fZ,jQ,dg]
  ·simp?[fx,hi,e1,hg,hb,f9,bJ,fZ,dg]
theorem IZ (h:gO S x c)(OG:List Str)(sp:Int)(n:Str):GF [.hd c.i,nv OG,.int sp,.str n] S = .ok (dg (x.o9 OG sp n)) S:=by
 unfold GF I.o9 nv;have hi:=h.i;have hs:=h.s;unfold iM at hi;by_cases hw:x.vG=""
 ·by_cases hb:n∈OG
  ·by_cases ha:n=x.Xo
   ·subst ha;simp?[fx,hi,hw,hb,f9,bJ,fZ,dg,ne_eq]
   ·by_cases h0:0<sp
    ·by_cases h1:sp<=i6 x.gD n<;>simp?[fx,hi,hs,hw,hb,ha,h0,h1,f9,bJ,fZ,rJ,dg,ne_eq]
    ·simp?[fx,hi,hs,hw,hb,ha,h0,f9,bJ,fZ,rJ,dg,ne_eq]
  ·simp?[fx,hi,hw,hb,f9,bJ,fZ,dg,ne_eq]
 ·simp?[fx,hi,hw,dg,ne_eq]
noncomputable def bE.yj:bE->Bool|.nU _=>true|.qf _=>true|.nV _=>true|.nW _=>true|.eV=>true|_=>false
theorem OH (h:gO S x c)(u:U)(Ei OG:List Str)(e:bE)(he:e.yj=true):GG [.hd c.i,u.t,nv Ei,nv OG,e.t] S = .ok (dg (x.mh u Ei OG e)) S:=by
 unfold GG;have e1:=λb=>IY h b
 have e2:=λn=>Tg h Ei n
 have e3:=λsp n=>IZ h OG sp n
 have e4:=λn=>jR h n
 have hi:=h.i;unfold iM at hi;cases e with
 |nU b =>
  have e1:=e1 b;unfold bE.t I.mh;generalize dg (x.mY b)=z at *
  unfold B.t at *
  simp?[fx,e1]
 |qf n =>
  have e2:=e2 n;unfold bE.t I.mh;simp?[fx,e2]
 |nV n =>
  have e3:=λsp=>e3 sp n
  unfold bE.t I.mh U.t;simp?[fx,e3]
 |nW n =>
  have e4:=e4 n;unfold bE.t I.mh;cases hs:x.d9 n<;>simp?[fx,hi,e4,hs,dg]
 |eV=>unfold bE.t I.mh;simp?[fx,dg]
 |cS _ _ _ _=>cases he
 |swap _ _=>cases he
 |gB=>cases he
 |jS=>cases he
theorem adz (h:gO S x c)(ps:List Str)(hl:ps.length<=1000):GX [.hd c.i,nv ps] S = .ok (.bl (x.left ps)) S:=by
 unfold GX nv;have e3:=λn=>jR h n
 have hi:=h.i;have ho:=h.o;unfold iM at hi;have hz:(ps.length<=sizeLine)=True:=bA (by omega)
 simp only[A0,gy,aJ,b9,af,gi,sY,aa,ak,iL,Fj,R.eL,R.eN,jy,tK,A5,zaL,CM,FW,zaG,Nat.reduceAdd,Nat.reduceSub,zbW,zbr,zaX,zaE,Option.join,zbw,id_eq,zaz];rw[pV [] (λτ=>∃v,τ=[some (.hd c.i),v]) (λt=>match t with|.str n=>.bl (!decide (n∈x.outs) && !x.d9 n)|_=>.bu) (λ_=>true) (ps.map .str) _ [] ⟨_,rfl⟩ ?_ (by simp;omega)]
 ·have e:((ps.map Tr.str).filter (λ_=>true)).map (λt=>match t with|.str n=>(.bl (!decide (n∈x.outs) && !x.d9 n):Tr)|_=>.bu)=ps.map λn=>.bl (!decide (n∈x.outs) && !x.d9 n):=by
   rw[zcY.mpr (λ_ _=>rfl),zbt];rfl
  rw[CM,e];simp only[R.eL,Q9,AQ,Ck,R.eN,s_,zac,hz,ite_true];unfold I.left;rw[zcz];rfl
 ·rintro t ht τ ⟨v,rfl⟩
  obtain⟨n,hn,rfl⟩:=zbl.mp ht;refine⟨[some (.hd c.i),some (.str n)],⟨_,rfl⟩,rfl,rfl,λ_=>?_⟩
  by_cases hno:n∈x.outs
  ·simp?[fx,hi,ho,jQ,hno,zcZ]
  ·cases hs:x.d9 n<;>simp?[fx,hi,ho,jQ,hno,e3,hs,zdo]
end
noncomputable def kK (c:L3):List Nat:=[c.i,c.o,c.s]
noncomputable def fp (y:Ly):List Nat:=y.a::y.k::y.p::y.l::y.cs.flatMap kK
noncomputable def mF (m:M)(y:Ly):List (Str×Tr):=[("rules",m.ru.t),("sides",aD m.t0 m.t1 m.p0 m.p1),("known",.hd y.k),("played",.hd y.p),("followed",.bl m.Xp),("closed",.bl m.clo),("balls_told",.hd y.l)]
structure dI (S:Cs) (m:M) (y:Ly):Prop where
 a:S[y.a]? = some (.d_ "Match" (mF m y))
 k:S[y.k]? = some (.bM (m.kn.map .str))
 p:S[y.p]? = some (.bM (y.cs.map λc=>.hd c.i))
 l:S[y.l]? = some (.bM m.gG)
 len:y.cs.length=m.pl.length
 qf:∀(j:Nat) x c,m.pl[j]? = some x->y.cs[j]? = some c->gO S x c
 nd:(fp y).Nodup
noncomputable def g5 (m:M):Option I:=match m.pl.getLast? with|some x=>if x.en="" then some x else none|none=>none
noncomputable def Th (m:M)(s:Int):Int:=((m.pl.filter λx=>decide (x.bZ=s)).map (·.Cf)).sum
noncomputable def kZ (m:M)(s:Int):Int:=Th m s - Th m (1 - s)
noncomputable def fV (m:M):Int:=match m.pl.getLast? with|some x=>x.bZ|none=>0
noncomputable def k9 (m:M):Bool:=if m.clo=true then true else if (g5 m).isSome=true then false else if m.pl.length=3/\2 * m.ru.i=4 then decide (kZ m (fV m)<0) else decide (2 * m.ru.i<=m.pl.length)
theorem i7 {m:M}{y:Ly}(hl:y.cs.length=m.pl.length):(m.pl=[]/\y.cs=[])\/∃fM x ci c,m.pl=fM++[x]/\y.cs=ci++[c]/\ci.length=fM.length:=by
 rcases zci m.pl with h|⟨fM,x,h⟩
 ·exact .inl ⟨h,by rw[h] at hl;simpa using hl⟩
 ·rcases zci y.cs with h2|⟨ci,c,h2⟩
  ·rw[h,h2] at hl;simp at hl
  ·refine .inr ⟨fM,x,ci,c,by simpa using h,by simpa using h2,?_⟩
   rw[h,h2] at hl;simpa using hl
theorem mj {α:Type}(l:List α)(a:α):ig (l++[a]) (-1)=some a:=by
 unfold ig Aa;rw[if_neg (by decide),zaf,zbi]
 rw[if_pos (by omega)]
 simp only[zbw];rw[show ((-1:Int)+((l.length+1:Nat):Int)).toNat=l.length by omega]
 simp
theorem fW {α:Type}(l:List α)(a:α):(l++[a])[l.length]? = some a:=by simp
section
variable {S:Cs}{m:M}{y:Ly}
theorem dI.qg (h:dI S m y)(e1:m.pl=fM++[x])(e2:y.cs=ci++[c])(e3:ci.length=fM.length):gO S x c:=h.qf fM.length x c (by rw[e1,fW]) (by rw[e2,<-e3,fW])
theorem Xs {α β:Type}{f:α -> List β}:∀{l:List α},(l.flatMap f).Nodup->∀c∈l,(f c).Nodup
 |[],_,c,h=>absurd h (by simp)
 |a::r,h,c,hc=>by
  rw[zdt] at h;have h':=zcf.mp h;rcases zao.mp hc with rfl|hc
  ·exact h'.1
  ·exact Xs h'.2.1 c hc
theorem Cn (h:(fp y).Nodup)(hc:c∈y.cs):Dj c/\c.i≠y.a/\c.i≠y.k/\c.i≠y.p/\c.i≠y.l/\c.o≠y.a/\c.o≠y.k/\c.o≠y.p/\c.o≠y.l/\c.s≠y.a/\c.s≠y.k/\c.s≠y.p/\c.s≠y.l:=by
 unfold fp at h;simp only[zbz,zao,zbm,not_or,not_exists,not_and] at h;obtain⟨⟨_,_,_,ha⟩,⟨_,_,hk⟩,⟨_,hp⟩,hl,hn⟩:=h
 have q:∀n∈kK c,n≠y.a/\n≠y.k/\n≠y.p/\n≠y.l:=λn hn=>⟨λz=>ha c hc (z ▸ hn),λz=>hk c hc (z ▸ hn),λz=>hp c hc (z ▸ hn),λz=>hl c hc (z ▸ hn)⟩
 have d:(kK c).Nodup:=by
  exact Xs hn c hc
 unfold kK at d q;simp only[zbz,zao,zbe,or_false,not_or] at d;obtain⟨a1,a2,a3,a4⟩:=q c.i (by simp)
 obtain⟨b1,b2,b3,b4⟩:=q c.o (by simp)
 obtain⟨c1,c2,c3,c4⟩:=q c.s (by simp)
 exact⟨⟨d.1.1,d.1.2,d.2.1⟩,a1,a2,a3,a4,b1,b2,b3,b4,c1,c2,c3,c4⟩
noncomputable def OI (m:M)(y:Ly):Tr:=match m.pl.getLast?,y.cs.getLast? with|some x,some c=>if x.en="" then .hd c.i else .bu|_,_=>.bu
theorem fG (h:dI S m y)(hs:m.pl.length<=1000):iZ [.hd y.a] S = .ok (OI m y) S:=by
 unfold iZ OI;have ha:=h.a;have hp:=h.p;have hz:(m.pl.length<=sizeLine)=True:=bA (by omega)
 unfold mF at ha;rcases i7 h.len with⟨e1,e2⟩|⟨fM,x,ci,c,e1,e2,e3⟩
 ·rw[e1,e2]
  rw[e2] at hp;simp?[fx,ha,hp,List.getLast?_nil]
 ·have hi:=(h.qg e1 e2 e3).i
  rw[e1,e2];rw[e2,zaK,tK,A5] at hp;have hz:(ci.length+1<=sizeLine)=True:=bA (by rw[e1] at hs;simp at hs;omega)
  unfold iM at hi;have hn:¬ ((ci.length:Int)+1=0):=by omega
  by_cases he:x.en="" <;> simp?[fx,ha,hp,hi,he,hz,mj,List.getLast?_append,List.getLast?_singleton,Option.some_or,zaf,zac,zbB,zbO,hn,Int.ofNat_one]
end
structure Sz (m:M) (n:Nat):Prop where
 pl:m.pl.length<=n
 kn:m.kn.length<=n
 gG:m.gG.length<=n
 p0:m.p0.length<=11
 p1:m.p1.length<=11
 outs:∀x∈m.pl,x.outs.length<=n
 gD:∀x∈m.pl,x.gD.length<=n
 bZ:∀x∈m.pl,x.bZ=0\/x.bZ=1
noncomputable def i8 (m:M)(s:Int):Str:=if s=0 then m.t0 else m.t1
noncomputable def ie (m:M)(s:Int):List Str:=if s=0 then m.p0 else m.p1
theorem mq {m:M}{s:Int}(h:s=0\/s=1):ig [Tr.tp [.str m.t0,.ls (m.p0.map .str)],Tr.tp [.str m.t1,.ls (m.p1.map .str)]] s=some (.tp [.str (i8 m s),.ls ((ie m s).map .str)]):=by rcases h with rfl|rfl<;>rfl
theorem G6 {m:M}{s:Int}(h:s=0\/s=1):ig [Tr.tp [.str m.t0,.ls (m.p0.map .str)],Tr.tp [.str m.t1,.ls (m.p1.map .str)]] (1 - s)=some (.tp [.str (i8 m (1 - s)),.ls ((ie m (1 - s)).map .str)]):=by rcases h with rfl|rfl<;>rfl
noncomputable def k_ (m:M):Option Int:=if m.pl=[] then none else if (g5 m).isSome=true then none else if k9 m=true then none else if m.Xp=true/\m.pl.length=2 then some (fV m) else some (1 - fV m)
noncomputable def lE:Option Int->Tr|none=>.bu|some i=>.int i
theorem adA:pS 0 2=[.int 0,.int 1]:=rfl
noncomputable def zQ (m:M)(t:Str):Option Int:=if m.t0=t/\(m.pl=[]\/k_ m=some 0) then some 0 else if m.t1=t/\(m.pl=[]\/k_ m=some 1) then some 1 else none
noncomputable def mw (m:M)(t f o b:Str):Option Str:=if (g5 m).isSome=true then some "going" else match zQ m t with
 |none=>some "turn"
 |some s=>if f∉ie m s\/o∉ie m s\/b∉ie m (1 - s) then some "team" else if f=o then some "alike" else none
theorem rK {m:M}{y:Ly}{fM:List I}{x:I}{ci:List L3}{c:L3}(e1:m.pl=fM++[x])(e2:y.cs=ci++[c]):OI m y=if x.en="" then .hd c.i else .bu:=by
 unfold OI;rw[e1,e2];simp
theorem o_ {m:M}{fM:List I}{x:I}(e1:m.pl=fM++[x]):g5 m=if x.en="" then some x else none:=by
 unfold g5;rw[e1];simp
theorem fX {m:M}{y:Ly}(hl:y.cs.length=m.pl.length)(h:(g5 m).isSome=false):OI m y = .bu:=by
 rcases i7 hl with⟨e1,e2⟩|⟨fM,x,ci,c,e1,e2,e3⟩
 ·unfold OI;rw[e1,e2];rfl
 ·rw[rK e1 e2]
  rw[o_ e1] at h;split
  ·rename_i q;rw[if_pos q] at h;cases h
  ·rfl
theorem fq {m:M}{y:Ly}(hl:y.cs.length=m.pl.length)(h:(g5 m).isSome=true):∃(fM:List I) (x:I) (ci:List L3) (c:L3),m.pl=fM++[x]/\y.cs=ci++[c]/\ci.length=fM.length/\x.en=("" : Str)/\OI m y = .hd c.i/\g5 m=some x:=by
 rcases i7 hl with⟨e1,e2⟩|⟨fM,x,ci,c,e1,e2,e3⟩
 ·unfold g5 at h;rw[e1] at h;cases h
 ·have hx:x.en="" := by
   rw[o_ e1] at h;by_cases q:x.en=""
   ·exact q
   ·rw[if_neg q] at h;cases h
  exact⟨fM,x,ci,c,e1,e2,e3,hx,by rw[rK e1 e2,if_pos hx],by rw[o_ e1,if_pos hx]⟩
section
variable {S:Cs}{m:M}{y:Ly}{n:Nat}
theorem Ej (h:dI S m y):vh [.hd y.a] S = .ok (.int (2 * m.ru.i)) S:=by
 unfold vh;have ha:=h.a;unfold mF U.t at ha;simp?[fx,ha]
theorem Ti (h:dI S m y)(s:Int)(hs:m.pl.length<=1000):BW [.hd y.a,.int s] S = .ok (.int (Th m s)) S:=by
 unfold BW;refine e_ (S1:=S) (t:=.int (Th m s)) ?_ (zaH ..) (by unfold nK;simp only[oU];rfl)
 have ha:=h.a;have hp:=h.p;unfold mF at ha;have hz:∀k:Nat,k<=1000->(k<=sizeLine)=True:=λk hk=>bA (by omega)
 rw[<-FL (l:=m.pl) (λc:L3=>Tr.hd c.i) h.len] at hp
 simp only[A0,gy,aJ,b9,af,gi,sY,aa,ak,aO,Ik,iy,iL,Fj,cD,R.eL,R.eN,jy,tK,A5,zaL,CM,FW,zaG,Nat.reduceAdd,Nat.reduceSub,zbW,zbr,zaX,zaE,Option.join,zbw,id_eq,zaz,ha,hp,fx,agI,if_true];rw[iV (by rw[hp]) (λτ=>∃v,τ=[some (.int s),v]) (λp:I×L3=>Tr.hd p.2.i) (λp=>.int p.1.Cf) (λp=>decide (p.1.bZ=s)) _ _ [] ⟨_,rfl⟩ ?_ (by
  rw[zaG,List.length_zip,h.len];omega)]
 ·rw[CM,DH (λx:I=>decide (x.bZ=s)) (λx=>Tr.int x.Cf) h.len]
  simp only[R.eL,Q8,Fj,Cm,R.eN,s_];rfl
 ·rintro⟨x,c⟩ hxc τ ⟨v,rfl⟩
  obtain⟨j,h1,h2⟩:=L8 hxc;have hi:=(h.qf j x c h1 h2).i
  unfold iM at hi;refine⟨[some (.int s),some (.hd c.i)],⟨_,rfl⟩,rfl,?_,λ_=>?_⟩<;>simp?[fx,hi]
theorem zR (h:dI S m y)(s:Int)(hs:m.pl.length<=1000):vj [.hd y.a,.int s] S = .ok (.int (kZ m s)) S:=by
 unfold vj kZ;have e1:=λs=>Ti h s hs
 have ha:=h.a;unfold mF at ha;simp?[fx,ha,e1,dG]
theorem zS (h:dI S m y)(z:Sz m n)(hn:n<=1000):ye [.hd y.a] S = .ok (.bl (k9 m)) S:=by
 unfold ye k9;have hs:m.pl.length<=1000:=zai z.pl hn
 have e1:=fG h hs;have e2:=Ej h;have e3:=λs=>zR h s hs
 have ha:=h.a;have hp:=h.p;have hz:(y.cs.length<=sizeLine)=True:=bA (by rw[h.len];omega)
 unfold mF at ha;cases hc:m.clo
 ·cases hg:(g5 m).isSome
  ·have eg:=fX h.len hg
   by_cases h3:m.pl.length=3
   ·have h3':((y.cs.length:Int)=3)=True:=eq_true (by rw[h.len,h3];rfl)
    by_cases h4:2 * m.ru.i=4
    ·rcases i7 h.len with⟨a1,_⟩|⟨fM,x,ci,c,a1,a2,a3⟩
     ·rw[a1] at h3;cases h3
     ·have hi:=(h.qg a1 a2 a3).i
      unfold iM at hi;have hl:fV m=x.bZ:=by unfold fV;rw[a1];simp
      have h5:((ci.length:Int)+1=3)=True:=eq_true (by rw[a2,zaf,zbi] at h3';have:=of_eq_true h3';omega)
      have Tj:(ci.length+1<=sizeLine)=True:=by rw[a2,zaf,zbi] at hz;exact hz
      rw[a2,zaK,tK,A5] at hp;simp?[fx,ha,hp,hi,hc,e1,eg,e2,e3,h4,h3,hl,Tj,h5,zaf,zac,mj,dG,zbB,zbO,sW,Ab]
    ·have h4':¬ (2 * m.ru.i=4):=h4
     simp?[fx,ha,hp,hc,e1,eg,e2,h3,h4',hz,h3',zac,dG,gGe,Ab];simp only[h.len,h3];rfl
   ·have h3':((y.cs.length:Int)=3)=False:=eq_false (by rw[h.len];omega)
    simp?[fx,ha,hp,hc,e1,eg,e2,h3,hz,h3',zac,dG,gGe,Ab];simp only[h.len]
  ·obtain⟨fM,x,ci,c,a1,a2,a3,a4,a5,a6⟩:=fq h.len hg
   simp?[fx,ha,hc,e1,a5]
 ·simp?[fx,ha,hc]
theorem OJ (h:dI S m y)(z:Sz m n)(hn:n<=1000):B7 [.hd y.a] S = .ok (lE (k_ m)) S:=by
 unfold B7 k_;have hs:m.pl.length<=1000:=zai z.pl hn
 have e1:=fG h hs;have e2:=zS h z hn;have ha:=h.a;have hp:=h.p;have hz:(y.cs.length<=sizeLine)=True:=bA (by rw[h.len];omega)
 unfold mF at ha;rcases i7 h.len with⟨a1,a2⟩|⟨fM,x,ci,c,a1,a2,a3⟩
 ·rw[a2] at hp
  simp?[fx,ha,hp,a1,lE]
 ·have CD:¬ m.pl=[]:=by rw[a1];simp
  have hi:=(h.qg a1 a2 a3).i
  unfold iM at hi;have hl:fV m=x.bZ:=by unfold fV;rw[a1];simp
  have Tj:(ci.length+1<=sizeLine)=True:=by rw[a2,zaf,zbi] at hz;exact hz
  have h0:¬ ((ci.length:Int)+1=0):=by omega
  rw[a2,zaK,tK,A5] at hp;cases hg:(g5 m).isSome
  ·have eg:=fX h.len hg
   cases hd:k9 m
   ·cases hf:m.Xp
    ·simp?[fx,ha,hp,hi,CD,e1,eg,e2,hd,hf,hl,Tj,h0,zaf,zac,mj,dG,zbB,zbO,lE]
    ·by_cases h2:m.pl.length=2
     ·have h5:((ci.length:Int)+1=2)=True:=eq_true (by rw[a1,zaf,zbi,<-a3] at h2;omega)
      simp?[fx,ha,hp,hi,CD,e1,eg,e2,hd,hf,hl,Tj,h0,h2,h5,zaf,zac,mj,dG,zbB,zbO,lE]
     ·have h5:((ci.length:Int)+1=2)=False:=eq_false (by rw[a1,zaf,zbi,<-a3] at h2;omega)
      simp?[fx,ha,hp,hi,CD,e1,eg,e2,hd,hf,hl,Tj,h0,h2,h5,zaf,zac,mj,dG,zbB,zbO,lE]
   ·simp?[fx,ha,hp,CD,e1,eg,e2,hd,Tj,h0,zaf,zac,zbB,zbO,lE]
  ·obtain⟨fM,x,ci,c,b1,b2,b3,b4,b5,b6⟩:=fq h.len hg
   simp?[fx,ha,hp,CD,e1,b5,Tj,h0,zaf,zac,zbB,zbO,lE]
theorem Xu (h:dI S m y)(z:Sz m n)(hn:n<=1000)(t:Str):B9 [.hd y.a,.str t] S = .ok (lE (zQ m t)) S:=by
 have e1:=OJ h z hn;have ha:=h.a;have hp:=h.p;have hs:m.pl.length<=1000:=zai z.pl hn
 have hz:(y.cs.length<=sizeLine)=True:=bA (by rw[h.len];omega)
 have h0:((y.cs.length:Int)=0)=(m.pl=[]):=by
  apply propext
  rw[h.len];constructor
  ·intro q;exact List.length_eq_zero_iff.mp (by omega)
  ·intro q;rw[q];rfl
 unfold B9 zQ;generalize hT:lB _ _=T
 have key:∀s:Int,s=0\/s=1->T [some (.hd y.a),some (.str t),some (.int s)] S = .ok (decide (i8 m s=t/\(m.pl=[]\/k_ m=some s))) S:=λs s01=>by
  have k5:=@mq m s s01
  unfold mF aD at ha;subst hT;generalize i8 m s=tt at *
  by_cases h1:tt=t
  ·by_cases h3:m.pl=[]
   ·simp?[fx,ha,hp,h0,h1,h3,hz,k5,zac]
   ·cases hN:k_ m with
    |none =>
     rw[hN] at e1;simp?[fx,ha,hp,h0,h1,h3,hz,k5,zac,e1,lE]
    |some j =>
     rw[hN] at e1;simp?[fx,ha,hp,h0,h1,h3,hz,k5,zac,e1,lE,zbD,eq_comm,false_or,true_and]
  ·simp?[fx,ha,h1,k5]
 have t0:i8 m 0=m.t0:=rfl
 have t1:i8 m 1=m.t1:=rfl
 have a0:=key 0 (.inl rfl)
 have a1:=key 1 (.inr rfl)
 rw[t0] at a0;rw[t1] at a1;clear key
 by_cases c0:m.t0=t/\(m.pl=[]\/k_ m=some 0)
 ·rw[decide_eq_true c0] at a0
  rw[if_pos c0];simp?[adA,a0,lE]
 ·rw[decide_eq_false c0] at a0
  rw[if_neg c0];by_cases c1:m.t1=t/\(m.pl=[]\/k_ m=some 1)
  ·rw[decide_eq_true c1] at a1
   rw[if_pos c1];simp?[adA,a0,a1,lE]
  ·rw[decide_eq_false c1] at a1
   rw[if_neg c1];simp?[adA,a0,a1,lE]
theorem Xv (e:zQ m t=some s):s=0\/s=1:=by
 unfold zQ at e;split at e
 ·cases e;exact .inl rfl
 ·split at e
  ·cases e;exact .inr rfl
  ·cases e
theorem Ek (h:dI S m y)(z:Sz m n)(hn:n<=1000)(t f o b:Str):Gs [.hd y.a,(bE.cS t f o b).t] S = .ok (dg (mw m t f o b)) S:=by
 unfold Gs mw bE.t;have hs:m.pl.length<=1000:=zai z.pl hn
 have e1:=fG h hs;have e2:=Xu h z hn t;have ha:=h.a;unfold mF aD at ha;cases hg:(g5 m).isSome
 ·have eg:=fX h.len hg
  cases hs:zQ m t with
  |none=>rw[hs] at e2;simp?[fx,ha,e1,eg,e2,lE,dg]
  |some s =>
   rw[hs] at e2;have aiM:=Xv hs;have k1:=@mq m s aiM
   have k2:=@G6 m s aiM
   by_cases h1:f∈ie m s<;>by_cases h2:o∈ie m s<;>by_cases h3:b∈ie m (1 - s)<;>by_cases h4:f=o <;>
    simp?[fx,ha,e1,eg,e2,lE,dg,k1,k2,dG,f9,bJ,fZ,h1,h2,h3,h4]
 ·obtain⟨fM,x,ci,c,b1,b2,b3,b4,b5,b6⟩:=fq h.len hg
  simp?[fx,ha,e1,b5,dg]
noncomputable def fu (m:M)(e:bE):Option Str:=match g5 m with
 |none=>some "none"
 |some x=>x.mh m.ru (ie m x.bZ) (ie m (1 - x.bZ)) e
theorem Tn (e:bE)(he:e.yj=true):∃w l,e.t = .tp (.str w::l)/\¬ w="start" /\ ¬ w="swap" /\ ¬ w="follow" /\ ¬ w="close" := by
 have h:∀w∈(["ball","in","bowl","hurt","declare"]:List Str),¬ w="start" /\ ¬ w="swap" /\ ¬ w="follow" /\ ¬ w="close" := by decide +kernel
 cases e<;>first | (cases he;done)|exact⟨_,_,rfl,h _ (by simp)⟩
theorem Co (h:dI S m y)(z:Sz m n)(hn:n<=1000)(e:bE)(he:e.yj=true):qK [.hd y.a,e.t] S = .ok (dg (if k9 m=true then some "done" else fu m e)) S:=by
 unfold qK;have hs:m.pl.length<=1000:=zai z.pl hn
 have e1:=fG h hs;have e2:=zS h z hn;have ha:=h.a;unfold mF aD at ha;obtain⟨w,l,el,w1,w2,w3,w4⟩:=Tn e he;cases hd:k9 m
 ·cases hg:(g5 m).isSome
  ·have eg:=fX h.len hg
   have DI:fu m e=some ("none" : Str):=by
    unfold fu;cases hq:g5 m with
    |none=>rfl
    |some x=>rw[hq] at hg;cases hg
   rw[el];simp?[fx,ha,e1,eg,e2,hd,DI,dg,w1,w2,w3,w4]
  ·obtain⟨fM,x,ci,c,b1,b2,b3,b4,b5,b6⟩:=fq h.len hg
   have hI:=h.qg b1 b2 b3;have hi:=hI.i;unfold iM at hi;have hsd:=z.bZ x (by rw[b1];simp)
   have k1:=@mq m x.bZ hsd
   have k2:=@G6 m x.bZ hsd
   have e3:=OH hI m.ru (ie m x.bZ) (ie m (1 - x.bZ)) e he
   have DI:fu m e=x.mh m.ru (ie m x.bZ) (ie m (1 - x.bZ)) e:=by unfold fu;rw[b6]
   rw[<-DI] at e3;unfold nv at e3;generalize fu m e=r at *
   rw[el] at e3 ⊢
   simp?[fx,ha,hi,e1,b5,e2,hd,k1,k2,dG,e3,w1,w2,w3,w4]
 ·simp?[fx,ha,e2,hd,dg]
end
noncomputable def aU (F:List Nat)(S S':Cs):Prop:=S.length<=S'.length/\∀j,j<S.length->j∉F->S'[j]? = S[j]?
theorem aU.refl:aU F S S:=⟨zah _,λ_ _ _=>rfl⟩
theorem aU.trans (a:aU F S1 S2)(b:aU F S2 S3):aU F S1 S3:=⟨zai a.1 b.1,λj h1 h2=>(b.2 j (zal h1 a.1) h2).trans (a.2 j h1 h2)⟩
theorem aU.mono (a:aU F S S')(h:∀j∈F,j∈F'):aU F' S S':=⟨a.1,λj h1 h2=>a.2 j h1 λz=>h2 (h j z)⟩
theorem aU.at (a:aU F S S')(h:S[j]? = some c)(hj:j∉F):S'[j]? = some c:=by rw[a.2 j (aH h) hj];exact h
theorem aU.set (h:n∈F):aU F S (S.set n c):=⟨by simp,λj _ h2=>cR λz=>h2 (z ▸ h)⟩
theorem aU.rq:aU F S (S++r):=⟨by simp,λj h1 _=>zaj h1⟩
theorem aU.jP (h:∀j∈kK c,j∈F):aU F S (jP S x c):=by
 unfold My.jP;exact ((aU.set (h _ (by simp[kK]))).trans (aU.set (h _ (by simp[kK])))).trans (aU.set (h _ (by simp[kK])))
theorem gO.only (a:aU F S S')(h:gO S x c)(hF:∀j∈kK c,j∉F):gO S' x c:=⟨a.at h.i (hF _ (by simp[kK])),a.at h.o (hF _ (by simp[kK])),a.at h.s (hF _ (by simp[kK]))⟩
theorem dI.only (a:aU F S S')(h:dI S m y)(hF:∀j∈fp y,j∉F):dI S' m y where
 a:=a.at h.a (hF _ (by simp[fp]))
 k:=a.at h.k (hF _ (by simp[fp]))
 p:=a.at h.p (hF _ (by simp[fp]))
 l:=a.at h.l (hF _ (by simp[fp]))
 len:=h.len
 qf:=λj x c h1 h2=>(h.qf j x c h1 h2).only a λn hn=>hF n (by
  unfold fp;simp only[zao,zbm];exact .inr (.inr (.inr (.inr ⟨c,zaY h2,hn⟩))))
 nd:=h.nd
theorem zU {α β:Type}{f:α -> List β}:∀{l:List α} {j k:Nat} {a b:α},(l.flatMap f).Nodup->l[j]? = some a->l[k]? = some b->j≠k->∀n∈f a,n∉f b
 |[],j,k,a,b,_,h,_,_,_,_=>by simp at h
 |x::r,j,k,a,b,nd,h1,h2,ne,n,hn=>by
  rw[zdt] at nd;have nd':=zcf.mp nd;intro hb;cases j with
  |zero =>
   cases k with
   |zero=>exact ne rfl
   |succ k =>
    simp only[zaX,zbD] at h1;simp only[zaE] at h2;subst h1;exact nd'.2.2 n hn n (zbm.mpr ⟨b,zaY h2,hb⟩) rfl
  |succ j =>
   simp only[zaE] at h1;cases k with
   |zero =>
    simp only[zaX,zbD] at h2;subst h2;exact nd'.2.2 n hb n (zbm.mpr ⟨a,zaY h1,hn⟩) rfl
   |succ k =>
    simp only[zaE] at h2;exact zU nd'.2.1 h1 h2 (λz=>ne (by rw[z])) n hn hb
theorem Xw (h:(fp y).Nodup):(y.cs.flatMap kK).Nodup:=by
 unfold fp at h;simp only[zbz] at h;exact h.2.2.2.2
noncomputable def M.lg (m:M)(x:I):M:={m with pl:=m.pl.dropLast++[x]}
section
variable {S:Cs}{m:M}{y:Ly}{n:Nat}{fM:List I}{x x':I}{ci:List L3}{c:L3}
theorem dI.lg (h:dI S m y)(e1:m.pl=fM++[x])(e2:y.cs=ci++[c])(e3:ci.length=fM.length):dI (jP S x' c) (m.lg x') y:=by
 obtain⟨d,a1,a2,a3,a4,b1,b2,b3,b4,c1,c2,c3,c4⟩:=Cn h.nd (c:=c) (by rw[e2];simp)
 have hI:=h.qg e1 e2 e3;have on:aU (kK c) S (jP S x' c):=aU.jP λ_ h=>h
 have nm:∀j,j≠c.i->j≠c.o->j≠c.s->j∉kK c:=λj h1 h2 h3 q=>by simp[kK] at q;rcases q with q|q|q;exact h1 q;exact h2 q;exact h3 q
 have ep:(m.lg x').pl=fM++[x']:=by unfold M.lg;simp[e1]
 refine⟨on.at h.a (nm _ a1.symm b1.symm c1.symm),on.at h.k (nm _ a2.symm b2.symm c2.symm),on.at h.p (nm _ a3.symm b3.symm c3.symm),on.at h.l (nm _ a4.symm b4.symm c4.symm),?_,?_,h.nd⟩
 ·rw[ep,e2];simp[e3]
 ·intro j z cz h1 h2
  rw[ep] at h1;by_cases hj:j=fM.length
  ·subst hj
   rw[fW] at h1;rw[e2,<-e3,fW] at h2;cases h1;cases h2
   exact kJ hI d
  ·have FJ:j<fM.length:=by
    have:=(zab.mp h1).1
    simp at this
    omega
   rw[zaj FJ] at h1;refine (h.qf j z cz (by rw[e1,zaj FJ];exact h1) h2).only on (zU (Xw h.nd) h2 (k:=fM.length) (by rw[e2,<-e3,fW]) hj)
theorem adB (e1:m.pl=fM++[x])(z:I):(m.lg z).pl=fM++[z]:=by unfold M.lg;simp[e1]
theorem Sz.lg (h:Sz m n)(e1:m.pl=fM++[x])(hs:x'.bZ=x.bZ)(h1:x'.outs.length<=n)(h2:x'.gD.length<=n):Sz (m.lg x') n:=by
 have ep:=adB e1 x';have hm:∀z∈(m.lg x').pl,z∈m.pl\/z=x':=λz hz=>by
  rw[ep] at hz;rcases zbN.mp hz with q|q
  ·exact .inl (by rw[e1];exact zcj _ q)
  ·exact .inr (by simpa using q)
 refine⟨?_,h.kn,h.gG,h.p0,h.p1,λz hz=>?_,λz hz=>?_,λz hz=>?_⟩
 ·rw[ep];have:=h.pl;rw[e1] at this;simpa using this
 ·rcases hm z hz with q|rfl
  ·exact h.outs z q
  ·exact h1
 ·rcases hm z hz with q|rfl
  ·exact h.gD z q
  ·exact h2
 ·rcases hm z hz with q|rfl
  ·exact h.bZ z q
  ·rw[hs];exact h.bZ x (by rw[e1];simp)
end
noncomputable def i9 (m:M)(x:I)(b:B):Tr:=.tp [.int ((m.pl.length:Int) - 1),.int x.ov,.int x.ba,.str x.m_,.str x.qe,.str x.vG,b.t,.str (x.Dp b)]
noncomputable def nX (m:M)(x:I):bE->M
 |.nU b=>{m.lg (x.o8 m.ru b) with gG:=m.gG++[i9 m x b]}
 |.qf n=>m.lg (x.Cg n)
 |.nV n=>m.lg (x.yi n)
 |.nW n=>m.lg (x.gz n)
 |.eV=>m.lg { x with en:= "declared" }
 |_=>m
noncomputable def El (m:M)(x:I):Str:=if (m.pl.length:Int)=2 * m.ru.i/\0<kZ m x.bZ then "won" else if x.Xq=true/\x.left (ie m x.bZ)=false then "out" else if 0<m.ru.v/\m.ru.v<=x.ov then "overs" else ""
noncomputable def pe (m:M):M:=match g5 m with|some x=>m.lg {x with en:=El m x} | none=>m
section
variable {S:Cs}{m:M}{y:Ly}{n:Nat}{fM:List I}{x x':I}{ci:List L3}{c:L3}
theorem OL (h:dI S m y)(z:Sz m n)(hn:n<=1000)(e1:m.pl=fM++[x])(e2:y.cs=ci++[c])(e3:ci.length=fM.length):GY [.hd y.a,.hd c.i] S = .ok (.str (El m x)) S:=by
 have hs:m.pl.length<=1000:=zai z.pl hn
 have hI:=h.qg e1 e2 e3;have k1:=Ej h;have k2:=zR h x.bZ hs;have k3:=OC hI;have hsd:=z.bZ x (by rw[e1];simp)
 have k5:=@mq m x.bZ hsd
 have iA:(ie m x.bZ).length<=1000:=by
  have:=z.p0;have:=z.p1
  unfold ie;split<;>omega
 have k4:=adz hI (ie m x.bZ) iA
 unfold nv at k4;have ha:=h.a;have hp:=h.p;have hi:=hI.i;have hz:(y.cs.length<=sizeLine)=True:=bA (by rw[h.len];omega)
 unfold mF aD at ha;unfold iM at hi;have dm:(y.cs.length:Int)=m.pl.length:=by rw[h.len]
 unfold GY El;generalize (m.pl.length:Int)=N at *
 generalize kZ m x.bZ=L at *
 generalize x.Xq=G at *
 generalize x.left (ie m x.bZ)=F at *
 generalize hT1:lB (mB (ai (cX false) _ _)) _=T1
 generalize hT2:lB (mB (aF _ _ _ _ _ _)) _=T2
 generalize Ze:mB (kg _ _ _ _ _)=T3
 have a1:T1 [some (.hd y.a),some (.hd c.i)] S = .ok (decide (N=2 * m.ru.i/\0<L)) S:=by
  subst hT1;by_cases h1:N=2 * m.ru.i<;>simp?[fx,ha,hp,hi,hz,k1,k2,dm,h1,zac,wI,Ab,true_and,false_and,decide_false]
 have a2:T2 [some (.hd y.a),some (.hd c.i)] S = .ok (decide (G=true/\F=false)) S:=by
  have eG:decide (G=true/\F=false)=(G && !F):=by cases G<;>cases F<;>rfl
  rw[eG];subst hT2;cases G<;>simp?[fx,ha,hi,k3,k4,k5,zdo,zcZ]
 have a3:T3 [some (.hd y.a),some (.hd c.i)] S = .ok (decide (0<m.ru.v/\m.ru.v<=x.ov)) S:=by
  subst Ze;unfold U.t at ha;by_cases h1:0<m.ru.v<;>simp?[fx,ha,hi,h1,sW,UC,Ab,true_and,false_and,decide_false]
 clear hT1 hT2 Ze ha hi hp k1 k2 k3 k4 k5
 by_cases q1:N=2 * m.ru.i/\0<L
 ·rw[decide_eq_true q1] at a1
  rw[if_pos q1];simp?[a1]
 ·rw[decide_eq_false q1] at a1
  rw[if_neg q1];by_cases q2:G=true/\F=false
  ·rw[decide_eq_true q2] at a2
   rw[if_pos q2];simp?[a1,a2]
  ·rw[decide_eq_false q2] at a2
   rw[if_neg q2];by_cases q3:0<m.ru.v/\m.ru.v<=x.ov
   ·rw[decide_eq_true q3] at a3
    rw[if_pos q3];simp?[a1,a2,a3]
   ·rw[decide_eq_false q3] at a3
    rw[if_neg q3];simp?[a1,a2,a3]
theorem To (h:(fp y).Nodup):y.a≠y.k/\y.a≠y.p/\y.a≠y.l/\y.k≠y.p/\y.k≠y.l/\y.p≠y.l:=by
 unfold fp at h;simp only[zbz,zao,not_or] at h;exact⟨h.1.1,h.1.2.1,h.1.2.2.1,h.2.1.1,h.2.1.2.1,h.2.2.1.1⟩
theorem dI.JR (h:dI S m y)(on:aU [n] S S')(hn:∀c∈y.cs,n∉kK c):∀(j:Nat) x c,m.pl[j]? = some x->y.cs[j]? = some c->gO S' x c:=λj x c h1 h2=>(h.qf j x c h1 h2).only on λk hk q=>by
 simp at q
 subst q;exact hn c (zaY h2) hk
theorem G7 (h:(fp y).Nodup)(hk:k=y.a\/k=y.k\/k=y.p\/k=y.l):∀c∈y.cs,k∉kK c:=λc hc q=>by
 obtain⟨d,a1,a2,a3,a4,b1,b2,b3,b4,c1,c2,c3,c4⟩:=Cn h (c:=c) hc
 simp[kK] at q
 rcases hk with rfl|rfl|rfl|rfl<;>rcases q with q|q|q<;>first|exact a1 q.symm|exact a2 q.symm|exact a3 q.symm|exact a4 q.symm|exact b1 q.symm|exact b2 q.symm|exact b3 q.symm|exact b4 q.symm|exact c1 q.symm|exact c2 q.symm|exact c3 q.symm|exact c4 q.symm
theorem dI.amM (h:dI S m y)(l:List Tr):dI (S.set y.l (.bM l)) {m with gG:=l} y:=by
 obtain⟨a1,a2,a3,a4,a5,a6⟩:=To h.nd;exact⟨by rw[cR a3.symm];exact h.a,by rw[cR a5.symm];exact h.k,by rw[cR a6.symm];exact h.p,bR (aH h.l),h.len,h.JR (aU.set (by simp)) (G7 h.nd (.inr (.inr (.inr rfl)))),h.nd⟩
theorem Tp (h:dI S m y)(z:Sz m n)(hn:n<=1000)(e1:m.pl=fM++[x])(e2:y.cs=ci++[c])(e3:ci.length=fM.length)(hx:x.en="")(b:B):
  GP [.hd y.a,b.t] S = .ok .bu ((jP S (x.o8 m.ru b) c).set y.l (.bM (m.gG++[i9 m x b]))):=by
 unfold GP i9;have hs:m.pl.length<=1000:=zai z.pl hn
 have hI:=h.qg e1 e2 e3;have Tq:x∈m.pl:=by rw[e1];simp
 obtain⟨d,a1,a2,a3,a4,b1,b2,b3,b4,c1,c2,c3,c4⟩:=Cn h.nd (c:=c) (by rw[e2];simp)
 have k1:=fG h hs;rw[rK e1 e2,if_pos hx] at k1;have k2:=ady hI d m.ru b (zai (z.outs x Tq) hn)
 have hM:=dI.lg (x':=x.o8 m.ru b) h e1 e2 e3
 have ha:=h.a;have hp:=h.p;have hi:=hI.i;have QA:=hM.a;have hl':=hM.l;have JJ:(m.lg (x.o8 m.ru b)).gG=m.gG:=rfl
 rw[JJ] at hl';have hz:(y.cs.length<=sizeLine)=True:=bA (by rw[h.len];omega)
 have hz2:(m.gG.length<sizeLine)=True:=g_ (by have:=z.gG;omega)
 have dm:(y.cs.length:Int)=m.pl.length:=by rw[h.len]
 unfold mF at ha QA;unfold iM at hi;generalize (m.pl.length:Int)=N at *
 generalize x.Dp b=o at *
 generalize jP S (x.o8 m.ru b) c=S1 at *
 unfold B.t at *
 simp?[fx,k1,ha,hp,hi,hz,dm,zac,dG,k2,QA,hl',hz2]
end
noncomputable def zV (s:Int)(f o b:Str):I:=⟨s,f,o,b,"",0,0,0,0,"",[],[(b,1)]⟩
noncomputable def jv (k:Nat):L3:=⟨k,k+1,k+2⟩
noncomputable def Eo (S:Cs)(s:Int)(f o b:Str):Cs:=S++[Ce.d_ "Innings" (iM (zV s f o b) (jv S.length)),Ce.jt [],Ce.jt [(Sum.inr b,Tr.int 1)]]
noncomputable def I0 (S:Cs)(y:Ly)(s:Int)(f o b:Str):Cs:=(Eo S s f o b).set y.p (.bM (y.cs.map (λc=>Tr.hd c.i)++[Tr.hd S.length]))
theorem G8:(S++(a::r))[S.length]? = some a:=by simp
theorem sa0:(S++(a::r)).set S.length b=S++(b::r):=by
 rw[zeb _ _ (zah _),zeD];rfl
theorem ga2:(S++(a::b::c::r))[S.length+2]? = some c:=by
 rw[zat (by omega),show S.length+2 - S.length=2 by omega];rfl
theorem sa2:(S++(a::b::c::r)).set (S.length+2) d=S++(a::b::d::r):=by
 rw[zeb _ _ (by omega),show S.length+2 - S.length=2 by omega];rfl
theorem aiN (S:Cs)(s:Int)(f o b:Str):SN [.hd S.length,.int s,.str f,.str o,.str b] (S++[.d_ "Innings" []]) = .ok .bu (Eo S s f o b):=by
 unfold SN Eo iM zV jv;simp?[fx,G8,sa0,ga2,sa2,fD,kR,zbb,zbp,List.foldl_nil,zeC]
section
variable {S:Cs}{m:M}{y:Ly}{n:Nat}{fM:List I}{x x':I}{ci:List L3}{c:L3}
theorem dI.lt (h:dI S m y):∀j∈fp y,j<S.length:=by
 intro j hj;unfold fp at hj;simp only[zao,zbm] at hj;rcases hj with rfl|rfl|rfl|rfl|⟨c,hc,hj⟩
 ·exact aH h.a
 ·exact aH h.k
 ·exact aH h.p
 ·exact aH h.l
 ·obtain⟨k,hk⟩:=List.getElem?_of_mem hc
  have hk2:k<m.pl.length:=by rw[<-h.len];exact (zab.mp hk).1
  have hI:=h.qf k m.pl[k] c (zae hk2) hk
  simp[kK] at hj
  rcases hj with rfl|rfl|rfl
  ·exact aH hI.i
  ·exact aH hI.o
  ·exact aH hI.s
theorem dI.aiO (h:dI S m y)(s:Int)(f o b:Str):dI (I0 S y s f o b) {m with pl:=m.pl++[zV s f o b]} {y with cs:=y.cs++[jv S.length]}:=by
 have on:aU [y.p] S (I0 S y s f o b):=aU.trans aU.rq (aU.set (by simp))
 obtain⟨a1,a2,a3,a4,a5,a6⟩:=To h.nd;have jc:=h.lt;have hp:=jc y.p (by simp[fp])
 have ne:∀k,S.length<=k->y.p≠k:=λk hk z=>by omega
 refine⟨on.at h.a (by simp[a2]),on.at h.k (by simp[a4]),?_,on.at h.l (by simp[a6.symm]),by simp[h.len],?_,?_⟩
 ·unfold I0 Eo
  rw[bR (by simp;omega)]
  simp[jv]
 ·intro j z cz h1 h2
  by_cases hj:j=m.pl.length
  ·subst hj
   have q1:(m.pl++[zV s f o b])[m.pl.length]? = some (zV s f o b):=fW _ _
   have q2:(y.cs++[jv S.length])[m.pl.length]? = some (jv S.length):=by rw[<-h.len];exact fW _ _
   simp only at h1 h2
   rw[q1] at h1;rw[q2] at h2;cases h1;cases h2
   unfold I0 Eo;refine⟨?_,?_,?_⟩
   ·rw[cR (k:=(jv S.length).i) (ne _ (zah _))]
    show (S++_)[S.length]? = _
    exact G8
   ·rw[cR (k:=(jv S.length).o) (ne _ (by simp[jv]))]
    show (S++_)[S.length+1]? = _
    rw[zat (by omega),show S.length+1 - S.length=1 by omega]
    rfl
   ·rw[cR (k:=(jv S.length).s) (ne _ (by simp[jv]))]
    show (S++_)[S.length+2]? = _
    rw[zat (by omega),show S.length+2 - S.length=2 by omega]
    rfl
  ·have FJ:j<m.pl.length:=by
    have:=(zab.mp h1).1
    simp at this
    omega
   simp only at h1 h2
   rw[zaj FJ] at h1;rw[zaj (by rw[h.len];exact FJ)] at h2
   exact h.JR on (G7 h.nd (.inr (.inr (.inl rfl)))) j z cz h1 h2
 ·show (fp {y with cs:=y.cs++[jv S.length]}).Nodup
  have e:fp {y with cs:=y.cs++[jv S.length]}=fp y++[S.length,S.length+1,S.length+2]:=by
   unfold fp;simp[kK,jv]
  rw[e,zcf];refine⟨h.nd,by simp,λa ha b hb=>?_⟩
  have:=jc a ha
  simp at hb
  omega
theorem Tt (h:dI S m y)(z:Sz m n)(hn:n<=1000)(t f o b:Str)(s:Int)(hs:zQ m t=some s):GH [.hd y.a,(bE.cS t f o b).t] S = .ok .bu (I0 S y s f o b):=by
 unfold GH bE.t;have e1:=Xu h z hn t;rw[hs] at e1;have e2:=aiN S s f o b;have ha:=h.a;have hp:=h.p;have on:aU [] S (Eo S s f o b):=aU.rq
 have hp':=on.at h.p (by simp)
 have hz2:(y.cs.length<sizeLine)=True:=g_ (by have:=z.pl;rw[h.len];omega)
 unfold mF at ha;unfold I0;generalize Eo S s f o b=S1 at *
 simp?[fx,e1,lE,ha,hp,e2,hp',zac,hz2]
theorem amO (h:dI S m y)(z:Sz m n)(hn:n<=1000)(e1:m.pl=fM++[x])(e2:y.cs=ci++[c])(e3:ci.length=fM.length)(hx:x.en="")(e:bE)(he:e.yj=true):
  ∃S',vn [.hd y.a,e.t] S = .ok .bu S'/\dI S' (nX m x e) y/\aU (fp y) S S':=by
 have hs:m.pl.length<=1000:=zai z.pl hn
 have hI:=h.qg e1 e2 e3;have Tq:x∈m.pl:=by rw[e1];simp
 obtain⟨d,_⟩:=Cn h.nd (c:=c) (by rw[e2];simp)
 have k1:=fG h hs;rw[rK e1 e2,if_pos hx] at k1;have ha:=h.a;have hi:=hI.i;have Uy:=aH hI.i;have onc:∀x',aU (fp y) S (jP S x' c):=λx'=>aU.jP λj hj=>by
  unfold fp;simp only[zao,zbm];exact .inr (.inr (.inr (.inr ⟨c,by rw[e2];simp,hj⟩)))
 unfold mF at ha;unfold iM at hi;unfold vn;cases e with
 |nU b =>
  have k2:=Tp h z hn e1 e2 e3 hx b;refine⟨_,?_,(dI.lg (x':=x.o8 m.ru b) h e1 e2 e3).amM (m.gG++[i9 m x b]),(onc _).trans (aU.set (by simp[fp]))⟩
  generalize i9 m x b=r at *
  unfold bE.t;unfold B.t at *
  simp?[fx,k1,ha,k2]
 |qf nm =>
  have k2:=ads hI d nm;refine⟨_,?_,dI.lg (x':=x.Cg nm) h e1 e2 e3,onc _⟩
  unfold bE.t;simp?[fx,k1,ha,hi,k2]
 |nV nm =>
  have k2:=Tf hI d nm (zai (z.gD x Tq) hn)
  refine⟨_,?_,dI.lg (x':=x.yi nm) h e1 e2 e3,onc _⟩
  unfold bE.t;simp?[fx,k1,ha,hi,k2]
 |nW nm =>
  have k2:=G3 hI d nm;refine⟨_,?_,dI.lg (x':=x.gz nm) h e1 e2 e3,onc _⟩
  unfold bE.t;simp?[fx,k1,ha,hi,k2]
 |eV =>
  have k2:=kY (y:={ x with en:= "declared" }) hI d rfl rfl
  refine⟨_,?_,dI.lg (x':={ x with en:= "declared" }) h e1 e2 e3,onc _⟩
  unfold bE.t;unfold iM at k2;simp?[fx,k1,ha,hi,k2]
 |cS _ _ _ _=>cases he
 |swap _ _=>cases he
 |gB=>cases he
 |jS=>cases he
noncomputable def zW:Str:= "the rules don't let this entry: "
theorem vo:zW.length=32:=by decide +kernel
theorem I_ (w:Str)(hw:w.length<=100)(e:Tr)(hm:S[y.a]? = some (.d_ "Match" (mF m y)))(hr:qK [.hd y.a,e] S = .ok (.str w) S0):
  kX [.hd y.a,e] S = .ex S0.length (S0++[.sL "NotLet" [("rule",.str w),("number",.int 0)]]):=by
 unfold kX;unfold mF at hm;have h1:(w.length<=sizeLine)=True:=bA (by omega)
 have h2:((Str.empty++zW).length<=sizeLine)=True:=bA (by
  rw[Str.length_append,vo];decide)
 have h3:((Str.empty++zW++w).length<=sizeLine)=True:=bA (by
  rw[Str.length_append,Str.length_append,vo];have:Str.empty.length=0:=rfl
  omega)
 unfold zW at h2 h3;simp?[fx,hm,hr,fJ,Z6,h1,h2,h3]
theorem Ep (h:dI S m y)(z:Sz m n)(e:Tr)(hr:qK [.hd y.a,e] S = .ok .bu S0)(h0:dI S0 m y)(hy:y1.a=y.a)(hd:vn [.hd y.a,e] S0 = .ok .bu S1)(h1:dI S1 m1 y1)(z1:Sz m1 k)(hn:k<=1000):
  ∃S',kX [.hd y.a,e] S = .ok .bu S'/\dI S' (pe m1) y1/\aU (fp y1) S1 S':=by
 have ha:=h.a;have ha0:=h0.a;have Lc:=h1.a;have k1:=fG h1 (zai z1.pl hn)
 rw[hy] at Lc k1;unfold mF at ha ha0 Lc;unfold kX;cases hg:(g5 m1).isSome
 ·have eg:=fX h1.len hg
  have ef:pe m1=m1:=by
   unfold pe;cases hq:g5 m1 with
   |none=>rfl
   |some x=>rw[hq] at hg;cases hg
  refine⟨S1,?_,by rw[ef];exact h1,aU.refl⟩
  simp?[fx,ha,ha0,hr,hd,Lc,k1,eg]
 ·obtain⟨fM,x,ci,c,b1,b2,b3,b4,b5,b6⟩:=fq h1.len hg
  have hI:=h1.qg b1 b2 b3;obtain⟨d,_⟩:=Cn h1.nd (c:=c) (by rw[b2];simp)
  have k2:=OL h1 z1 hn b1 b2 b3;rw[hy] at k2;have k3:=kY (y:={x with en:=El m1 x}) hI d rfl rfl
  have hi:=hI.i;have ef:pe m1=m1.lg {x with en:=El m1 x}:=by unfold pe;rw[b6]
  refine⟨jP S1 {x with en:=El m1 x} c,?_,by rw[ef];exact dI.lg h1 b1 b2 b3,aU.jP λj hj=>?_⟩
  ·unfold iM at hi k3
   generalize El m1 x=en at *
   simp?[fx,ha,ha0,hr,hd,Lc,k1,b5,k2,hi,k3]
  ·unfold fp
   simp only[zao,zbm];exact .inr (.inr (.inr (.inr ⟨c,by rw[b2];simp,hj⟩)))
theorem OM (x:I)(a b:Str):(x.vP a b).outs.length<=x.outs.length+1/\(x.vP a b).gD=x.gD/\(x.vP a b).bZ=x.bZ:=by
 unfold I.vP;have hl:∀(z:I) (k:Str),(z.gz k).outs=z.outs/\(z.gz k).gD=z.gD/\(z.gz k).bZ=z.bZ:=λz k=>by unfold I.gz;split<;>exact⟨rfl,rfl,rfl⟩
 dsimp only;generalize hy:I.gz {x with outs:=gA x.outs a,wk:=x.wk+1} a=y
 have h1:y.outs=gA x.outs a/\y.gD=x.gD/\y.bZ=x.bZ:=by rw[<-hy,(hl _ _).1,(hl _ _).2.1,(hl _ _).2.2];exact⟨rfl,rfl,rfl⟩
 have h2:y.outs.length<=x.outs.length+1:=by
  rw[h1.1];unfold gA
  split<;>simp
 split<;>split<;>exact⟨h2,h1.2⟩
theorem ON (u:U)(x:I)(b:B):(x.o8 u b).outs.length<=x.outs.length+1/\(x.o8 u b).gD=x.gD/\(x.o8 u b).bZ=x.bZ:=by
 unfold I.o8;have hf:∀(x:I) (o:Int),(x.vQ o).outs=x.outs/\(x.vQ o).gD=x.gD/\(x.vQ o).bZ=x.bZ:=λx o=>by unfold I.vQ;split<;>exact⟨rfl,rfl,rfl⟩
 dsimp only;generalize hz:(if nR b.r b.rp=true then I.swap {x with Cf:=x.Cf+b.Tc u} else {x with Cf:=x.Cf+b.Tc u})=z
 have z1:z.outs=x.outs/\z.gD=x.gD/\z.bZ=x.bZ:=by rw[<-hz];split<;>exact⟨rfl,rfl,rfl⟩
 generalize hw:(if x.Dp b="" then z else z.vP (x.Dp b) (if b.w="run" then b.en else "strike"))=w
 have w1:w.outs.length<=x.outs.length+1/\w.gD=x.gD/\w.bZ=x.bZ:=by
  rw[<-hw,<-z1.1,<-z1.2.1,<-z1.2.2];split
  ·exact⟨zbc _,rfl,rfl⟩
  ·exact OM _ _ _
 split
 ·rw[(hf w u.o).1,(hf w u.o).2.1,(hf w u.o).2.2];exact w1
 ·exact w1
theorem yk (l:List (Str×Int))(k:Str)(v:Int):(l_ l k v).length<=l.length+1:=by unfold l_;split<;>simp
theorem Sz.mono (h:Sz m n)(hn:n<=n'):Sz m n':=⟨zai h.pl hn,zai h.kn hn,zai h.gG hn,h.p0,h.p1,λx hx=>zai (h.outs x hx) hn,λx hx=>zai (h.gD x hx) hn,h.bZ⟩
theorem Sz.nX (z:Sz m n)(e1:m.pl=fM++[x])(e:bE):Sz (nX m x e) (n+1):=by
 have Tq:x∈m.pl:=by rw[e1];simp
 have z':=z.mono (zbc n)
 have ho:=z.outs x Tq;have hs:=z.gD x Tq;cases e with
 |nU b =>
  have q:=ON m.ru x b;have k:=z'.lg (x':=x.o8 m.ru b) e1 q.2.2 (by omega) (by rw[q.2.1];omega)
  refine⟨k.pl,k.kn,?_,k.p0,k.p1,k.outs,k.gD,k.bZ⟩
  show (m.gG++[i9 m x b]).length<=n+1
  have:=z.gG
  simp
  exact this
 |qf nm=>exact z'.lg (x':=x.Cg nm) e1 (by unfold I.Cg;split<;>rfl) (by unfold I.Cg;split<;>(show x.outs.length<=_;omega)) (by unfold I.Cg;split<;>(show x.gD.length<=_;omega))
 |nV nm=>exact z'.lg (x':=x.yi nm) e1 rfl (by show x.outs.length<=_;omega) (by have:=yk x.gD nm (i6 x.gD nm+1);show (l_ _ _ _).length<=_;omega)
 |nW nm=>exact z'.lg (x':=x.gz nm) e1 (by unfold I.gz;split<;>rfl) (by unfold I.gz;split<;>(show x.outs.length<=_;omega)) (by unfold I.gz;split<;>(show x.gD.length<=_;omega))
 |eV=>exact z'.lg (x':={ x with en:= "declared" }) e1 rfl (by show x.outs.length<=_;omega) (by show x.gD.length<=_;omega)
 |cS _ _ _ _=>exact z'
 |swap _ _=>exact z'
 |gB=>exact z'
 |jS=>exact z'
theorem Sz.dN (z:Sz m n):Sz (pe m) n:=by
 unfold pe;cases hg:g5 m with
 |none=>exact z
 |some x =>
  rcases zci m.pl with h|⟨fM,w,h⟩
  ·unfold g5 at hg;rw[h] at hg;cases hg
  ·have h:m.pl=fM++[w]:=by simpa using h
   rw[o_ h] at hg;split at hg
   ·cases hg
    exact z.lg h rfl (z.outs x (by rw[h];simp)) (z.gD x (by rw[h];simp))
   ·cases hg
end
noncomputable def cZ (u:U)(t0 t1:Str)(p0 p1:List Str):M:=⟨u,t0,t1,p0,p1,p0++p1,[],false,false,[]⟩
noncomputable def ny (k:Nat):Ly:=⟨k,k+1,k+2,k+3,[]⟩
noncomputable def lq (S:Cs)(m:M):Cs:=S++[Ce.d_ "Match" (mF m (ny S.length)),Ce.bM (m.kn.map .str),Ce.bM [],Ce.bM []]
theorem ga1:(S++(a::b::r))[S.length+1]? = some b:=by
 rw[zat (by omega),show S.length+1 - S.length=1 by omega];rfl
theorem ga3:(S++(a::b::c::d::r))[S.length+3]? = some d:=by
 rw[zat (by omega),show S.length+3 - S.length=3 by omega];rfl
theorem OO (t0 t1:Str)(p0 p1:List Str)(h0:p0.length<=11)(h1:p1.length<=11)(S:Cs):BV [aD t0 t1 p0 p1,.str "player"] S = .ok (.hd S.length) (S++[.bM ((p0++p1).map .str)]):=by
 unfold BV aD;have hl:(p0.length<=sizeLine)=True:=bA (by omega)
 have JJ:(p0.length+p1.length<=sizeLine)=True:=bA (by omega)
 simp?[fx,Iq,zac,zaK,hl,JJ,zbT,zaf]
theorem zX (u:U)(t0 t1:Str)(p0 p1:List Str)(h0:p0.length<=11)(h1:p1.length<=11)(S:Cs):vg [.hd S.length,u.t,aD t0 t1 p0 p1] (S++[.d_ "Match" []]) = .ok .bu (lq S (cZ u t0 t1 p0 p1)):=by
 unfold vg lq cZ mF ny;have ht:=λS=>OO t0 t1 p0 p1 h0 h1 S
 have hl0:(p0.length<=sizeLine)=True:=bA (by omega)
 have QS:(p1.length<=sizeLine)=True:=bA (by omega)
 have hz:(∀n:Nat,(n<5)=True->(n<sizeLine)=True):=λn h=>g_ (by have:=of_eq_true h;omega)
 unfold aD at ht ⊢
 generalize u.t=ut at *
 simp?[fx,ht,hz,zac,hl0,QS,G8,sa0,zbb]
theorem Tu (S:Cs)(u:U)(t0 t1:Str)(p0 p1:List Str):dI (lq S (cZ u t0 t1 p0 p1)) (cZ u t0 t1 p0 p1) (ny S.length):=by
 unfold lq;refine⟨G8,ga1,ga2,ga3,rfl,λj x c h=>?_,?_⟩
 ·simp[cZ] at h
 ·simp[fp,ny]
theorem Tv (u:U)(t0 t1:Str)(p0 p1:List Str)(h0:p0.length<=11)(h1:p1.length<=11):Sz (cZ u t0 t1 p0 p1) 22:=⟨by simp[cZ],by simp[cZ];omega,by simp[cZ],h0,h1,λx h=>by simp[cZ] at h,λx h=>by simp[cZ] at h,λx h=>by simp[cZ] at h⟩
noncomputable def jA (m:M):Tr:=match g5 m with
 |some x=>.tp [.str (i8 m x.bZ),.str x.m_,.str x.qe,.str x.vG,.int x.Cf,.int x.wk,.int x.ov,.int x.ba]
 |none=>.bu
section
variable {S:Cs}{m:M}{y:Ly}{n:Nat}
theorem G9 (h:dI S m y)(z:Sz m n)(hn:n<=1000):BY [.hd y.a] S = .ok (jA m) S:=by
 unfold BY jA;have k1:=fG h (zai z.pl hn)
 have ha:=h.a;unfold mF aD at ha;cases hg:(g5 m).isSome
 ·have eg:=fX h.len hg
  have en:g5 m=none:=by
   cases hq:g5 m with
   |none=>rfl
   |some x=>rw[hq] at hg;cases hg
  rw[en];refine e_ (S1:=S) (t:=.bu) ?_ (zaH ..) (by unfold nK;simp only[FH];rfl)
  simp?[fx,ha,k1,eg]
 ·obtain⟨fM,x,ci,c,b1,b2,b3,b4,b5,b6⟩:=fq h.len hg
  have hi:=(h.qg b1 b2 b3).i
  unfold iM at hi;have k5:=@mq m x.bZ (z.bZ x (by rw[b1];simp))
  rw[b6];refine e_ (S1:=S) (t:=.tp [.str (i8 m x.bZ),.str x.m_,.str x.qe,.str x.vG,.int x.Cf,.int x.wk,.int x.ov,.int x.ba]) ?_ (zaH ..) ?_
  ·simp?[fx,ha,hi,k1,b5,k5]
  ·unfold nK
   simp only[fR,nL,kC,oU,zau,zax,zay];rfl
end
noncomputable def mZ (a b n:Str):Str:=if n=a then b else n
noncomputable def zY (a b:Str)(l:List Str):List Str:=l.foldl (λq n=>gA q (mZ a b n)) []
noncomputable def Es (a b:Str)(l:List (Str×Int)):List (Str×Int):=l.foldl (λq p=>l_ q (mZ a b p.1) (i6 l p.1)) []
theorem Et (l:List Str)(n:Str):(gA l n).length<=l.length+1:=by unfold gA;split<;>simp
theorem OP:(zY a b l).length<=l.length:=by
 have:∀(l q:List Str),(l.foldl (λq n=>gA q (mZ a b n)) q).length<=q.length+l.length:=by
  intro l;induction l with
  |nil=>intro q;simp
  |cons n r ih=>intro q;rw[zbp];have:=ih (gA q (mZ a b n));have:=Et q (mZ a b n);rw[FW];omega
 simpa[zY] using this l []
theorem OQ:(Es a b l).length<=l.length:=by
 have:∀(g:Str->Int) (l q:List (Str×Int)),(l.foldl (λq p=>l_ q (mZ a b p.1) (g p.1)) q).length<=q.length+l.length:=by
  intro g l;induction l with
  |nil=>intro q;simp
  |cons n r ih=>intro q;rw[zbp];have:=ih (l_ q (mZ a b n.1) (g n.1));have:=yk q (mZ a b n.1) (g n.1);rw[FW];omega
 simpa[Es] using this (i6 l) l []
theorem amR (l:List Str):fD [] (l.map λn=>(Sum.inr (mZ a b n),Tr.bl true))=gZ (zY a b l):=by
 unfold fD zY;rw[List.foldl_map];have:∀(l q:List Str),l.foldl (λx y=>kR x (Sum.inr (mZ a b y):dJ) (Tr.bl true)) (gZ q)=gZ (l.foldl (λq n=>gA q (mZ a b n)) q):=by
  intro l;induction l with
  |nil=>intro q;rfl
  |cons n r ih=>intro q;rw[zbp,Ci,ih,zbp]
 exact this l []
theorem amS (l:List (Str×Int)):fD [] (l.map λp=>(Sum.inr (mZ a b p.1),Tr.int (i6 l p.1)))=rH (Es a b l):=by
 unfold fD Es;rw[List.foldl_map];have:∀(g:Str->Int) (l q:List (Str×Int)),l.foldl (λx y=>kR x (Sum.inr (mZ a b y.1):dJ) (Tr.int (g y.1))) (rH q)=rH (l.foldl (λq p=>l_ q (mZ a b p.1) (g p.1)) q):=by
  intro g l;induction l with
  |nil=>intro q;rfl
  |cons n r ih=>intro q;rw[zbp,G5,ih,zbp]
 exact this (i6 l) l []
theorem ym {α:Type}(k:α -> Str)(v:α -> Tr):∀l:List α,pX (l.map λp=>.tp [.str (k p),v p])=some (l.map λp=>(Sum.inr (k p),v p))
 |[]=>rfl
 |p::r=>by
  rw[tK];unfold pX;rw[ym k v r];rfl
theorem Xx {α:Type}{S:Cs}{k:Nat}{D:List (dJ×Tr)}(hk:S[k]? = some (.jt D))(a b:Str)(L:List α)(nm:α -> Str)(vl:α -> Tr)(hD:D.map (λp=>MA p.1)=L.map λp=>.str (nm p))(hv:∀p∈L,aQ (.inr (nm p)) D=some (vl p))(hl:L.length<=1000):
  Ca [.hd k,.str a,.str b] S = .ok (.hd S.length) (S.set k (.vM D)++[.jt (fD [] (L.map λp=>(Sum.inr (mZ a b (nm p)),vl p)))]):=by
 unfold Ca;have hf:(S.set k (.vM D))[k]? = some (.vM D):=bR (aH hk)
 generalize hS:S.set k (.vM D)=S1 at *
 simp only[A0,gy,aJ,b9,af,gi,sY,aa,ak,iD,hk,hD,hS,R.eL,R.eN,jy,tK,A5,zaL,CM,FW,zaG,Nat.reduceAdd,Nat.reduceSub,zbW,zbr,zaX,zaE,Option.join,zbw,id_eq,zaz];rw[iV trivial (λτ=>∃v,τ=[some (.str b),some (.hd k),some (.str a),v]) (λp=>.str (nm p)) (λp=>.tp [.str (mZ a b (nm p)),vl p]) (λ_=>true) L _ [] ⟨_,rfl⟩ ?_ (by simp;omega)]
 ·rw[CM,zcY.mpr (λ_ _=>rfl)]
  have JJ:(L.map λp=>((Sum.inr (mZ a b (nm p)):dJ),vl p)).length<=1000:=by simpa using hl
  have hL1:S1.length=S.length:=by rw[<-hS];simp
  simp only[R.eL,zv,AQ,ym (λp=>mZ a b (nm p)) vl,R.eN,s_,if_pos JJ,hL1]
 ·rintro p hp τ ⟨v,rfl⟩
  refine⟨[some (.str b),some (.hd k),some (.str a),some (.str (nm p))],⟨_,rfl⟩,rfl,rfl,λ_=>?_⟩
  have h1:=hv p hp;unfold mZ;by_cases h:nm p=a
  ·rw[if_pos h]
   rw[h] at h1;simp?[h,Mx,Mw,hf,zct,h1]
  ·rw[if_neg h]
   simp?[h,Mx,Mw,hf,zct,h1]
theorem Ja (h:k∈l):aQ (.inr k) (gZ l)=some (.bl true):=by
 have h1:=jQ (k:=k) (l:=l)
 rw[decide_eq_true h] at h1;obtain⟨t,e⟩:=zbR.mp h1;rw[e];have:∀l:List Str,aQ (.inr k) (gZ l)=some t->t = .bl true:=by
  intro l;induction l with
  |nil=>intro q;cases q
  |cons a r ih =>
   intro q;unfold gZ at q;rw[tK] at q;unfold aQ at q;split at q
   ·cases q;rfl
   ·exact ih q
 rw[this l e]
theorem OR:∀p∈l,aQ (.inr p.1) (rH l)=some (.int (i6 l p.1)):=by
 induction l with
 |nil=>intro p h;cases h
 |cons a r ih =>
  intro p h;unfold rH;rw[tK];obtain⟨k,v⟩:=a;unfold aQ i6;by_cases e:k=p.1
  ·rw[if_pos (by rw[e]),if_pos e]
  ·rw[if_neg (λz=>e (zde z)),if_neg e]
   rcases zao.mp h with rfl|h
   ·exact absurd rfl e
   ·exact ih p h
noncomputable def I.mZ (x:I)(a b:Str):I:={x with Xo:=My.mZ a b x.Xo,outs:=zY a b x.outs,gD:=Es a b x.gD}
section
variable {S:Cs}{x:I}{c:L3}
theorem OS (h:gO S x c)(d:Dj c)(a b:Str)(ho:x.outs.length<=1000)(hs:x.gD.length<=1000):
  ∃S',GU [.hd c.i,.str a,.str b] S = .ok .bu S'/\gO S' (x.mZ a b) ⟨c.i,S.length,S.length+1⟩/\aU (kK c) S S':=by
 have k1:=Xx h.o a b x.outs id (λ_=>.bl true) (by unfold gZ;rw[zbt];rfl) (λp hp=>Ja hp) ho
 simp only[id] at k1;rw[amR] at k1;have hi:=h.i;have lo:=aH h.o;have li:=aH h.i;have ls:=aH h.s;generalize hS1:S.set c.o (.vM (gZ x.outs))++[.jt (gZ (zY a b x.outs))]=S1 at *
 have on1:aU (kK c) S S1:=by rw[<-hS1];exact (aU.set (by simp[kK])).trans aU.rq
 have l1:S1.length=S.length+1:=by rw[<-hS1];simp
 have i1:S1[c.i]? = some (.d_ "Innings" (iM x c)):=by
  rw[<-hS1,zaj (by simpa using li),cR d.io.symm];exact hi
 have s1:S1[c.s]? = some (.jt (rH x.gD)):=by
  rw[<-hS1,zaj (by simpa using ls),cR d.os];exact h.s
 have o1:S1[S.length]? = some (.jt (gZ (zY a b x.outs))):=by
  rw[<-hS1,zat (by simp)];simp
 generalize CG:S1.set c.i (.d_ "Innings" (iM x ⟨c.i,S.length,c.s⟩))=S2 at *
 have on2:aU (kK c) S S2:=by rw[<-CG];exact on1.trans (aU.set (by simp[kK]))
 have l2:S2.length=S.length+1:=by rw[<-CG];simpa using l1
 have i2:S2[c.i]? = some (.d_ "Innings" (iM x ⟨c.i,S.length,c.s⟩)):=by rw[<-CG];exact bR (by omega)
 have s2:S2[c.s]? = some (.jt (rH x.gD)):=by rw[<-CG,cR d.is];exact s1
 have o2:S2[S.length]? = some (.jt (gZ (zY a b x.outs))):=by rw[<-CG,cR (by omega)];exact o1
 have k2:=Xx s2 a b x.gD (·.1) (λp=>.int (i6 x.gD p.1)) (by unfold rH;rw[zbt];rfl) OR hs
 rw[amS,l2] at k2;generalize hS3:S2.set c.s (.vM (rH x.gD))++[.jt (rH (Es a b x.gD))]=S3 at *
 have on3:aU (kK c) S S3:=by rw[<-hS3];exact on2.trans ((aU.set (by simp[kK])).trans aU.rq)
 have l3:S3.length=S.length+2:=by rw[<-hS3];simp[l2]
 have i3:S3[c.i]? = some (.d_ "Innings" (iM x ⟨c.i,S.length,c.s⟩)):=by
  rw[<-hS3,zaj (by simp;omega),cR d.is.symm];exact i2
 have o3:S3[S.length]? = some (.jt (gZ (zY a b x.outs))):=by
  rw[<-hS3,zaj (by simp;omega),cR (by omega)];exact o2
 have s3:S3[S.length+1]? = some (.jt (rH (Es a b x.gD))):=by
  rw[<-hS3,zat (by simp;omega)];simp[l2]
 have li3:c.i<S3.length:=by omega
 refine⟨S3.set c.i (.d_ "Innings" (iM (x.mZ a b) ⟨c.i,S.length,S.length+1⟩)),?_,⟨bR li3,by rw[cR (by show ¬ c.i=S.length;omega)];exact o3,by rw[cR (by show ¬ c.i=S.length+1;omega)];exact s3⟩,on3.trans (aU.set (by simp[kK]))⟩
 unfold GU I.mZ mZ;unfold iM at hi i1 CG i2 i3 ⊢
 by_cases hh:x.Xo=a
 ·subst hh
  simp?[fx,hi,k1,i1,CG,i2,k2,i3,bR li3,d8]
 ·simp?[fx,hi,k1,i1,CG,i2,k2,i3,hh,bR li3,d8]
end
theorem Xy (ps:List Str)(a b:Str)(S:Cs)(hl:ps.length<=1000):GS [.ls (ps.map .str),.str a,.str b] S = .ok (.ls ((ps.map (mZ a b)).map .str)) S:=by
 unfold GS;simp only[A0,gy,aJ,gi,sY,aa,iL,Fj,R.eL,R.eN,jy,tK,A5,zaL,CM,FW,zaG,Nat.reduceAdd,Nat.reduceSub,zbW,zbr,zaX,zaE,Option.join,zbw,id_eq,zaz];rw[iV trivial (λτ=>∃v,τ=[some (.str b),some (.str a),v]) (λn=>.str n) (λn=>.str (mZ a b n)) (λ_=>true) ps _ [] ⟨_,rfl⟩ ?_ (by simp;omega)]
 ·rw[CM,zcY.mpr (λ_ _=>rfl),zbt]
  simp only[R.eL,R.eN,s_];rfl
 ·rintro n hn τ ⟨v,rfl⟩
  refine⟨[some (.str b),some (.str a),some (.str n)],⟨_,rfl⟩,rfl,rfl,λ_=>?_⟩
  unfold mZ;by_cases h:n=a<;>simp?[h]
section
variable {S:Cs}{m:M}{y:Ly}{n:Nat}{fM:List I}{x x':I}{ci:List L3}{c:L3}
theorem dI.rcd (h:dI S m y)(m1:M)(hp:m1.pl=m.pl)(hl:m1.gG=m.gG):dI ((S.set y.k (.bM (m1.kn.map .str))).set y.a (.d_ "Match" (mF m1 y))) m1 y:=by
 obtain⟨a1,a2,a3,a4,a5,a6⟩:=To h.nd;have l1:=aH h.a;have l2:=aH h.k;refine⟨bR (by simpa using l1),by rw[cR a1];exact bR l2,by rw[cR a2,cR a4];exact h.p,by rw[cR a3,cR a5,hl];exact h.l,by rw[hp];exact h.len,λj x c h1 h2=>?_,h.nd⟩
 rw[hp] at h1;have hc:=zaY h2
 exact (h.qf j x c h1 h2).only (F:=[y.k,y.a]) ((aU.set (by simp)).trans (aU.set (by simp))) λk hk q=>by
  rcases zao.mp q with rfl|q
  ·exact G7 h.nd (.inr (.inl rfl)) c hc hk
  ·rw[zaw] at q
   subst q;exact G7 h.nd (.inl rfl) c hc hk
theorem dI.amU (h:dI S m y)(e1:m.pl=fM++[x])(e2:y.cs=ci++[c])(e3:ci.length=fM.length)(on:aU (kK c) S S')(hI:gO S' x' ⟨c.i,S.length,S.length+1⟩):dI S' (m.lg x') {y with cs:=ci++[⟨c.i,S.length,S.length+1⟩]}:=by
 obtain⟨d,a1,a2,a3,a4,b1,b2,b3,b4,c1,c2,c3,c4⟩:=Cn h.nd (c:=c) (by rw[e2];simp)
 have nm:∀j,j≠c.i->j≠c.o->j≠c.s->j∉kK c:=λj h1 h2 h3 q=>by simp[kK] at q;rcases q with q|q|q;exact h1 q;exact h2 q;exact h3 q
 have ep:(m.lg x').pl=fM++[x']:=by unfold M.lg;simp[e1]
 refine⟨on.at h.a (nm _ a1.symm b1.symm c1.symm),on.at h.k (nm _ a2.symm b2.symm c2.symm),?_,on.at h.l (nm _ a4.symm b4.symm c4.symm),?_,?_,?_⟩
 ·have:=on.at h.p (nm _ a3.symm b3.symm c3.symm)
  rw[e2] at this;rw[this];simp
 ·rw[ep];simp[e3]
 ·intro j z cz h1 h2
  rw[ep] at h1;by_cases hj:j=fM.length
  ·subst hj
   rw[fW] at h1;rw[<-e3,fW] at h2;cases h1;cases h2
   exact hI
  ·have FJ:j<fM.length:=by
    have:=(zab.mp h1).1
    simp at this
    omega
   rw[zaj FJ] at h1;rw[zaj (by omega)] at h2
   have Fx:y.cs[j]? = some cz:=by rw[e2,zaj (by omega)];exact h2
   refine (h.qf j z cz (by rw[e1,zaj FJ];exact h1) Fx).only on (zU (Xw h.nd) Fx (k:=fM.length) (by rw[e2,<-e3,fW]) hj)
 ·have jc:=h.lt
  have nd:=h.nd;have f1:fp y=(y.a::y.k::y.p::y.l::ci.flatMap kK++[c.i])++[c.o,c.s]:=by unfold fp;rw[e2];simp[kK]
  have f2:fp {y with cs:=ci++[⟨c.i,S.length,S.length+1⟩]}=(y.a::y.k::y.p::y.l::ci.flatMap kK++[c.i])++[S.length,S.length+1]:=by unfold fp;simp[kK]
  rw[f2];rw[f1] at nd jc;generalize (y.a::y.k::y.p::y.l::ci.flatMap kK++[c.i])=L at *
  refine zcf.mpr ⟨(zcf.mp nd).1,by simp,λj hj k hk=>?_⟩
  have:=jc j (zcj _ hj)
  simp at hk
  omega
noncomputable def vR (m:M)(a b:Str):M:={m with kn:=m.kn++[b],p0:=m.p0.map (mZ a b),p1:=m.p1.map (mZ a b)}
noncomputable def Jb (m:M)(a b:Str):M:=match g5 m with|some x=>(vR m a b).lg (x.mZ a b)|none=>vR m a b
theorem Tw (h:dI S m y)(z:Sz m n)(hn:n+1<=1000)(a b:Str):
  ∃S' y',GV [.hd y.a,.str a,.str b] S = .ok .bu S'/\dI S' (Jb m a b) y'/\aU (fp y) S S'/\y'.a=y.a/\∀j∈fp y',j∈fp y\/S.length<=j:=by
 have hM:=h.rcd (vR m a b) rfl rfl
 have ha:=h.a;have hk:=h.k;have la:=aH ha;have k1:=fG hM (zai z.pl (by omega))
 obtain⟨a1,_⟩:=To h.nd;have hz:(m.kn.length<sizeLine)=True:=g_ (by have:=z.kn;omega)
 have w0:=λS=>Xy m.p0 a b S (by have:=z.p0;omega)
 have w1:=λS=>Xy m.p1 a b S (by have:=z.p1;omega)
 have hk2:((vR m a b).kn.map Tr.str)=m.kn.map .str++[.str b]:=by simp[vR]
 have on:aU (fp y) S ((S.set y.k (.bM ((vR m a b).kn.map .str))).set y.a (.d_ "Match" (mF (vR m a b) y))):=(aU.set (by simp[fp])).trans (aU.set (by simp[fp]))
 have dm:((S.set y.k (.bM ((vR m a b).kn.map .str))).set y.a (.d_ "Match" (mF (vR m a b) y))).length=S.length:=by simp
 have e0:(S.set y.k (.bM (m.kn.map .str++[.str b])))[y.a]? = some (.d_ "Match" (mF m y)):=by rw[cR a1.symm];exact ha
 rw[hk2] at hM k1 on dm;have hMa:=hM.a;generalize CG:(S.set y.k (.bM (m.kn.map .str++[.str b]))).set y.a (.d_ "Match" (mF (vR m a b) y))=S2 at *
 have hgo:g5 (vR m a b)=g5 m:=rfl
 have hgt:OI (vR m a b) y=OI m y:=rfl
 unfold GV Jb;cases hg:(g5 m).isSome
 ·have eg:=fX h.len hg
  have en:g5 m=none:=by
   cases hq:g5 m with
   |none=>rfl
   |some x=>rw[hq] at hg;cases hg
  rw[en];rw[hgt,eg] at k1;refine⟨S2,y,?_,hM,on,rfl,λj hj=>.inl hj⟩
  unfold mF vR aD at *
  simp?[fx,ha,hk,hz,e0,w0,w1,zo,CG,hMa,k1]
 ·obtain⟨fM,x,ci,c,b1,b2,b3,b4,b5,b6⟩:=fq h.len hg
  have hI:=hM.qg (x:=x) b1 b2 b3
  obtain⟨d,_⟩:=Cn h.nd (c:=c) (by rw[b2];simp)
  have Tq:x∈m.pl:=by rw[b1];simp
  obtain⟨S3,k2,k3,k4⟩:=OS hI d a b (zai (z.outs x Tq) (by omega)) (zai (z.gD x Tq) (by omega))
  have hi:=hI.i;rw[b6];rw[hgt,b5] at k1;refine⟨S3,_,?_,dI.amU hM b1 b2 b3 k4 k3,on.trans (k4.mono λj hj=>?_),rfl,λj hj=>?_⟩
  ·unfold mF vR aD iM at *
   simp?[fx,ha,hk,hz,e0,w0,w1,zo,CG,hMa,k1,hi,k2]
  ·unfold fp
   simp only[zao,zbm];exact .inr (.inr (.inr (.inr ⟨c,by rw[b2];simp,hj⟩)))
  ·rw[dm] at hj
   simp only[fp,zao,List.flatMap_append,zbN,zdt,List.flatMap_nil,kK,zbe,or_false,b2] at hj ⊢
   rcases hj with q|q|q|q|q|q|q|q
   ·exact .inl (.inl q)
   ·exact .inl (.inr (.inl q))
   ·exact .inl (.inr (.inr (.inl q)))
   ·exact .inl (.inr (.inr (.inr (.inl q))))
   ·exact .inl (.inr (.inr (.inr (.inr (.inl q)))))
   ·exact .inl (.inr (.inr (.inr (.inr (.inr (.inl q))))))
   ·exact .inr (by omega)
   ·exact .inr (by omega)
noncomputable def Pf (m:M):M:={m with clo:=true}
noncomputable def Jc (m:M):M:=match g5 m with|some x=>(Pf m).lg { x with en:= "closed" } | none=>Pf m
theorem dI.aiU (h:dI S m y)(m1:M)(hp:m1.pl=m.pl)(hl:m1.gG=m.gG)(hk:m1.kn=m.kn):dI (S.set y.a (.d_ "Match" (mF m1 y))) m1 y:=by
 have:=h.rcd m1 hp hl
 rw[hk,iW h.k] at this;exact this
theorem Tz (h:dI S m y)(z:Sz m n)(hn:n<=1000):∃S',GW [.hd y.a] S = .ok .bu S'/\dI S' (Jc m) y/\aU (fp y) S S':=by
 have hM:=h.aiU (Pf m) rfl rfl rfl
 have ha:=h.a;have la:=aH ha;have k1:=fG hM (zai z.pl (by omega))
 have on:aU (fp y) S (S.set y.a (.d_ "Match" (mF (Pf m) y))):=aU.set (by simp[fp])
 have hMa:=hM.a;generalize CG:S.set y.a (.d_ "Match" (mF (Pf m) y))=S2 at *
 have hgt:OI (Pf m) y=OI m y:=rfl
 unfold GW Jc;cases hg:(g5 m).isSome
 ·have eg:=fX h.len hg
  have en:g5 m=none:=by
   cases hq:g5 m with
   |none=>rfl
   |some x=>rw[hq] at hg;cases hg
  rw[en];rw[hgt,eg] at k1;refine⟨S2,?_,hM,on⟩
  unfold mF Pf at *
  simp?[fx,ha,CG,hMa,k1]
 ·obtain⟨fM,x,ci,c,b1,b2,b3,b4,b5,b6⟩:=fq h.len hg
  have hI:=hM.qg (x:=x) b1 b2 b3
  obtain⟨d,_⟩:=Cn h.nd (c:=c) (by rw[b2];simp)
  have k3:=kY (y:={ x with en:= "closed" }) hI d rfl rfl
  have hi:=hI.i;rw[b6];rw[hgt,b5] at k1;refine⟨_,?_,dI.lg (x':={ x with en:= "closed" }) hM b1 b2 b3,on.trans (aU.jP λj hj=>?_)⟩
  ·unfold mF Pf iM at *
   simp?[fx,ha,CG,hMa,k1,hi,k3]
  ·unfold fp
   simp only[zao,zbm];exact .inr (.inr (.inr (.inr ⟨c,by rw[b2];simp,hj⟩)))
noncomputable def rL (m:M)(a b:Str):Option Str:=if a∉m.p0++m.p1 then some "team" else if b∈m.kn then some "name" else match g5 m with|none=>none|some x=>if x.d9 a=true\/a=x.vG then some "there" else none
theorem Jd (h:dI S m y)(z:Sz m n)(hn:n<=1000)(a b:Str):Gv [.hd y.a,.str a,.str b] S = .ok (dg (rL m a b)) (S++[.bM ((m.p0++m.p1).map .str)]):=by
 unfold Gv rL;have k1:=OO m.t0 m.t1 m.p0 m.p1 z.p0 z.p1 S;have h':dI (S++[.bM ((m.p0++m.p1).map .str)]) m y:=h.only (F:=[]) aU.rq (by simp)
 have k2:=fG h' (zai z.pl hn)
 have hL:(S++[Ce.bM ((m.p0++m.p1).map .str)])[S.length]? = some (.bM ((m.p0++m.p1).map .str)):=G8
 generalize S++[.bM ((m.p0++m.p1).map .str)]=S1 at *
 have ha:=h.a;have QA:=h'.a;have hk':=h'.k;unfold mF at ha QA;by_cases h1:a∈m.p0++m.p1
 ·by_cases h2:b∈m.kn
  ·simp?[fx,ha,k1,hL,QA,hk',f9,bJ,fZ,h1,h2,dg]
  ·cases hg:(g5 m).isSome
   ·have eg:=fX h.len hg
    have en:g5 m=none:=by
     cases hq:g5 m with
     |none=>rfl
     |some x=>rw[hq] at hg;cases hg
    simp?[fx,ha,k1,k2,hL,QA,hk',f9,bJ,fZ,h1,h2,en,eg,dg]
   ·obtain⟨fM,x,ci,c,b1,b2,b3,b4,b5,b6⟩:=fq h.len hg
    have hI:=h'.qg b1 b2 b3;have k3:=jR hI a;have hi:=hI.i;unfold iM at hi;have k4:Gu [.hd c.i,.str a] S1 = .ok (dg (if x.d9 a=true\/a=x.vG then some "there" else none)) S1:=by
     unfold Gu;cases h3:x.d9 a
     ·by_cases h4:a=x.vG
      ·subst h4;simp?[fx,hi,k3,h3,dg]
      ·simp?[fx,hi,k3,h3,h4,dg]
     ·simp?[fx,hi,k3,h3,dg]
    generalize hr:(if x.d9 a=true\/a=x.vG then some ("there" : Str) else none)=r at *
    simp?[fx,ha,k1,k2,hL,QA,hk',f9,bJ,fZ,h1,h2,b5,b6,k4,hr]
 ·simp?[fx,ha,k1,hL,f9,bJ,fZ,h1,dg]
noncomputable def zZ (m:M):Int:=match m.pl with|x::_=>x.bZ|[]=>0
noncomputable def TH (m:M):Bool:=if m.pl.length=2/\2 * m.ru.i=4/\m.Xp=false then decide (0<m.ru.f/\m.ru.f<=kZ m (zZ m)) else false
noncomputable def m5 (m:M):Option Str:=if (g5 m).isSome=true then some "going" else if TH m=true then none else some "follow"
theorem aiV (h:dI S m y)(z:Sz m n)(hn:n<=1000):Gw [.hd y.a] S = .ok (.bl (TH m)) S:=by
 unfold Gw TH;have hs:m.pl.length<=1000:=zai z.pl hn
 have k1:=Ej h;have k2:=λs=>zR h s hs
 have ha:=h.a;have hp:=h.p;have hz:(y.cs.length<=sizeLine)=True:=bA (by rw[h.len];omega)
 unfold mF U.t at ha;by_cases h2:m.pl.length=2
 ·have Fx:((y.cs.length:Int)=2)=True:=eq_true (by rw[h.len,h2];rfl)
  by_cases h4:2 * m.ru.i=4
  ·cases hf:m.Xp
   ·have dm:=h.len
    cases iA:m.pl with
    |nil=>rw[iA] at h2;cases h2
    |cons x r =>
     cases hcs:y.cs with
     |nil=>rw[hcs,iA] at dm;cases dm
     |cons c q =>
      have hi:=(h.qf 0 x c (by rw[iA];rfl) (by rw[hcs];rfl)).i
      unfold iM at hi;have hl:zZ m=x.bZ:=by unfold zZ;rw[iA]
      rw[hcs] at hp Fx hz;rw[iA] at h2;rw[FW] at h2 Fx hz;rw[tK] at hp;have Tj:((q.map λc:L3=>Tr.hd c.i).length+1<=sizeLine)=True:=by rw[zac];exact hz
      have amW:(((q.map λc:L3=>Tr.hd c.i).length+1:Nat):Int)=2:=by rw[zac];exact of_eq_true Fx
      by_cases h5:0<m.ru.f<;>by_cases h6:m.ru.f<=kZ m x.bZ <;>
      simp?[fx,ha,hp,hi,hf,k1,k2,h4,h2,hl,hz,Tj,Fx,amW,h5,h6,FW,zac,sW,UC,Ab,iA]
   ·simp?[fx,ha,hp,hf,k1,h4,h2,hz,Fx,zac]
  ·simp?[fx,ha,hp,k1,h4,h2,hz,Fx,zac]
 ·have Fx:((y.cs.length:Int)=2)=False:=eq_false (by rw[h.len];omega)
  simp?[fx,ha,hp,h2,hz,Fx,zac]
theorem Cp (h:dI S m y)(z:Sz m n)(hn:n<=1000):Gy [.hd y.a] S = .ok (dg (m5 m)) S:=by
 unfold Gy m5;have k1:=fG h (zai z.pl hn)
 have k2:=aiV h z hn;have ha:=h.a;unfold mF at ha;cases hg:(g5 m).isSome
 ·have eg:=fX h.len hg
  cases hm:TH m<;>simp?[fx,ha,k1,k2,eg,hm,dg]
 ·obtain⟨fM,x,ci,c,b1,b2,b3,b4,b5,b6⟩:=fq h.len hg
  simp?[fx,ha,k1,b5,dg]
end
noncomputable def i_ (m:M)(e:bE):Option Str:=if k9 m=true then some "done" else match e with
 |.cS t f o b=>mw m t f o b
 |.swap a b=>rL m a b
 |.gB=>m5 m
 |.jS=>none
 |e=>fu m e
noncomputable def TL (m:M)(s:Int)(f o b:Str):M:={m with pl:=m.pl++[zV s f o b]}
noncomputable def OT (m:M)(e:bE):M:=match e with
 |.cS t f o b=>TL m ((zQ m t).getD 0) f o b
 |.swap a b=>Jb m a b
 |.gB=>{m with Xp:=true}
 |.jS=>Jc m
 |e=>match g5 m with|some x=>nX m x e|none=>m
noncomputable def ja (m:M)(e:bE):M:=pe (OT m e)
theorem B.Je {b:B}{w:Str}(h:b.yh=some w):0<w.length/\w.length<=100:=by
 unfold B.yh at h;split at h
 ·cases h;decide +kernel
 ·split at h
  ·cases h
  ·cases h;decide +kernel
theorem gC (h:fu m e=some w):0<w.length/\w.length<=100:=by
 unfold fu at h;cases hg:g5 m with
 |none=>rw[hg] at h;cases h;decide +kernel
 |some x =>
  rw[hg] at h;cases e with
  |nU b =>
   change x.mY b=some w at h
   unfold I.mY at h;repeat' split at h
   all_goals first | (cases h;done) | (cases h;decide +kernel) | (cases h;rename_i q;exact B.Je q)
  |qf k =>
   change x.Cj _ k=some w at h
   unfold I.Cj at h;repeat' split at h
   all_goals first | (cases h;done) | (cases h;decide +kernel)
  |nV k =>
   change x.o9 _ _ k=some w at h
   unfold I.o9 at h;repeat' split at h
   all_goals first | (cases h;done) | (cases h;decide +kernel)
  |nW k =>
   change (if x.d9 k=true then none else some ("who" : Str))=some w at h
   split at h
   ·cases h
   ·cases h;decide +kernel
  |cS _ _ _ _=>cases h
  |swap _ _=>cases h
  |eV=>cases h
  |gB=>cases h
  |jS=>cases h
theorem Cq (h:i_ m e=some w):0<w.length/\w.length<=100:=by
 unfold i_ at h;split at h
 ·cases h;decide +kernel
 ·cases e with
  |cS t f o b =>
   simp only at h;unfold mw at h
   repeat' split at h
   all_goals first | (cases h;done) | (cases h;decide +kernel)
  |swap a b =>
   simp only at h;unfold rL at h
   repeat' split at h
   all_goals first | (cases h;done) | (cases h;decide +kernel)
  |gB =>
   simp only at h;unfold m5 at h
   repeat' split at h
   all_goals first | (cases h;done) | (cases h;decide +kernel)
  |jS=>cases h
  |nU b=>exact gC h
  |qf k=>exact gC h
  |nV k=>exact gC h
  |nW k=>exact gC h
  |eV=>exact gC h
section
variable {S:Cs}{m:M}{y:Ly}{n:Nat}
theorem Xz (h:dI S m y)(z:Sz m n)(hn:n<=1000)(e:bE):∃G,qK [.hd y.a,e.t] S = .ok (dg (i_ m e)) (S++G):=by
 by_cases hi:e.yj=true
 ·refine⟨[],?_⟩
  rw[Co h z hn e hi,zaz];unfold i_;cases e<;>first|rfl | (cases hi;done)
 ·have k1:=zS h z hn
  have ha:=h.a;unfold qK i_;unfold mF at ha;cases hd:k9 m
  ·cases e with
   |cS t f o b =>
    refine⟨[],?_⟩
    have k2:=Ek h z hn t f o b;unfold bE.t at *
    simp?[fx,ha,k1,hd,k2,zaz]
   |swap a b =>
    refine⟨[.bM ((m.p0++m.p1).map .str)],?_⟩
    have k2:=Jd h z hn a b;unfold bE.t at *
    simp?[fx,ha,k1,hd,k2]
   |gB =>
    refine⟨[],?_⟩
    have k2:=Cp h z hn;unfold bE.t at *
    simp?[fx,ha,k1,hd,k2,zaz]
   |jS =>
    refine⟨[],?_⟩
    unfold bE.t at *
    simp?[fx,ha,k1,hd,zaz,dg]
   |nU _=>exact absurd rfl hi
   |qf _=>exact absurd rfl hi
   |nV _=>exact absurd rfl hi
   |nW _=>exact absurd rfl hi
   |eV=>exact absurd rfl hi
  ·refine⟨[],?_⟩
   simp?[fx,ha,k1,hd,zaz,dg]
theorem Sz.beg (z:Sz m n)(hs:s=0\/s=1)(hn:1<=n+1)(f o b:Str):Sz (TL m s f o b) (n+1):=by
 have z':=z.mono (zbc n)
 have hm:∀w∈(TL m s f o b).pl,w∈m.pl\/w=zV s f o b:=λw hw=>by
  rcases zbN.mp (show w∈m.pl++[zV s f o b] from hw) with q|q
  ·exact .inl q
  ·exact .inr (by simpa using q)
 refine⟨?_,z'.kn,z'.gG,z'.p0,z'.p1,λw hw=>?_,λw hw=>?_,λw hw=>?_⟩
 ·show (m.pl++[zV s f o b]).length<=n+1
  have:=z.pl
  simp;exact this
 ·rcases hm w hw with q|rfl
  ·exact z'.outs w q
  ·show 0<=_;omega
 ·rcases hm w hw with q|rfl
  ·exact z'.gD w q
  ·show 1<=_;omega
 ·rcases hm w hw with q|rfl
  ·exact z'.bZ w q
  ·exact hs
theorem G_ (hg:g5 m=some x):∃fM,m.pl=fM++[x]/\x.en="" := by
 rcases zci m.pl with h|⟨fM,w,h⟩
 ·unfold g5 at hg;rw[h] at hg;cases hg
 ·have h:m.pl=fM++[w]:=by simpa using h
  rw[o_ h] at hg;split at hg
  ·cases hg;exact⟨fM,h,by assumption⟩
  ·cases hg
theorem Sz.vR (z:Sz m n)(a b:Str):Sz (vR m a b) (n+1):=by
 have z':=z.mono (zbc n)
 exact⟨z'.pl,by have:=z.kn;simp[My.vR];omega,z'.gG,by have:=z.p0;simpa[My.vR] using this,by have:=z.p1;simpa[My.vR] using this,z'.outs,z'.gD,z'.bZ⟩
theorem Sz.sw (z:Sz m n)(a b:Str):Sz (Jb m a b) (n+1):=by
 unfold Jb;cases hg:g5 m with
 |none=>exact z.vR a b
 |some x =>
  obtain⟨fM,e,_⟩:=G_ hg;have hx:x∈m.pl:=by rw[e];simp
  have h1:=z.outs x hx;have h2:=z.gD x hx;exact (z.vR a b).lg (x:=x) (x':=x.mZ a b) e rfl (zai OP (by omega)) (zai OQ (by omega))
theorem Sz.cl (z:Sz m n):Sz (Jc m) n:=by
 unfold Jc;have zb:Sz (Pf m) n:=⟨z.pl,z.kn,z.gG,z.p0,z.p1,z.outs,z.gD,z.bZ⟩
 cases hg:g5 m with
 |none=>exact zb
 |some x =>
  obtain⟨fM,e,_⟩:=G_ hg;have hx:x∈m.pl:=by rw[e];simp
  exact zb.lg (x:=x) (x':={ x with en:= "closed" }) e rfl (z.outs x hx) (z.gD x hx)
structure OU (S:Cs) (y:Ly) (S':Cs) (m':M) (y':Ly):Prop where
 z6:dI S' m' y'
 on:aU (fp y) S S'
 a:y'.a=y.a
 fp:∀j∈fp y',j∈My.fp y\/S.length<=j
theorem aiW (h:dI S m y)(z:Sz m n)(hn:n+1<=1000)(e:bE)(hr:i_ m e=none):∃S' y',vn [.hd y.a,e.t] S = .ok .bu S'/\OU S y S' (OT m e) y'/\Sz (OT m e) (n+1):=by
 have ha:=h.a;unfold mF at ha;have k1:=fG h (zai z.pl (by omega))
 by_cases hi:e.yj=true
 ·have qW:fu m e=none:=by
   unfold i_ at hr;split at hr
   ·cases hr
   ·cases e<;>first|exact hr | (cases hi;done)
  unfold fu at qW;cases hg:g5 m with
  |none=>rw[hg] at qW;cases qW
  |some x =>
   obtain⟨fM,x2,ci,c,b1,b2,b3,b4,b5,b6⟩:=fq h.len (by rw[hg];rfl)
   rw[hg] at b6;cases b6;obtain⟨S1,k2,k3,k4⟩:=amO h z (by omega) b1 b2 b3 b4 e hi
   have ed:OT m e=nX m x e:=by unfold OT;rw[hg];cases e<;>first|rfl | (cases hi;done)
   rw[ed];exact⟨S1,y,k2,⟨k3,k4,rfl,λj hj=>.inl hj⟩,z.nX b1 e⟩
 ·unfold i_ at hr
  split at hr
  ·cases hr
  ·unfold vn
   cases e with
   |cS t f o b =>
    simp only at hr
    unfold mw at hr;split at hr
    ·cases hr
    ·rename_i hgo
     cases hs:zQ m t with
     |none=>rw[hs] at hr;cases hr
     |some s =>
      have k4:=Tt h z (by omega) t f o b s hs
      have hM:=h.aiO s f o b;have ed:OT m (.cS t f o b)=TL m s f o b:=by unfold OT;simp only;rw[hs];rfl
      rw[ed];refine⟨_,_,?_,⟨hM,aU.trans aU.rq (aU.set (by simp[fp])),rfl,λj hj=>?_⟩,z.beg (Xv hs) (by omega) f o b⟩
      ·unfold bE.t at *
       simp?[fx,ha,k4,k1]
      ·have Uo:fp {y with cs:=y.cs++[jv S.length]}=fp y++[S.length,S.length+1,S.length+2]:=by
        unfold fp;simp[kK,jv]
       rw[Uo] at hj;rcases zbN.mp hj with q|q
       ·exact .inl q
       ·simp at q;exact .inr (by omega)
   |swap a b =>
    obtain⟨S',y',k2,k3,k4,k5,k6⟩:=Tw h z hn a b;refine⟨S',y',?_,⟨k3,k4,k5,k6⟩,z.sw a b⟩
    unfold bE.t;simp?[fx,ha,k1,k2]
   |gB =>
    have hM:=h.aiU {m with Xp:=true} rfl rfl rfl
    refine⟨_,y,?_,⟨hM,aU.set (by simp[fp]),rfl,λj hj=>.inl hj⟩,(show Sz {m with Xp:=true} (n+1) from let z':=z.mono (zbc n);⟨z'.pl,z'.kn,z'.gG,z'.p0,z'.p1,z'.outs,z'.gD,z'.bZ⟩)⟩
    unfold bE.t mF;simp?[fx,ha,k1]
   |jS =>
    obtain⟨S',k2,k3,k4⟩:=Tz h z (by omega)
    refine⟨S',y,?_,⟨k3,k4,rfl,λj hj=>.inl hj⟩,z.cl.mono (zbc n)⟩
    unfold bE.t;simp?[fx,ha,k1,k2]
   |nU _=>exact absurd rfl hi
   |qf _=>exact absurd rfl hi
   |nV _=>exact absurd rfl hi
   |nW _=>exact absurd rfl hi
   |eV=>exact absurd rfl hi
theorem aU.fresh (a:aU F S S')(b:aU F' S' S'')(h:∀j∈F',j∈F\/S.length<=j):aU F S S'':=⟨zai a.1 b.1,λj h1 h2=>by
 rw[b.2 j (zal h1 a.1) λq=>(h j q).elim h2 λk=>by omega,a.2 j h1 h2]⟩
theorem z7 (h:dI S m y)(z:Sz m n)(hn:n+1<=1000)(e:bE)(hr:i_ m e=none):∃S' y',kX [.hd y.a,e.t] S = .ok .bu S'/\OU S y S' (ja m e) y'/\Sz (ja m e) (n+1):=by
 obtain⟨G,k1⟩:=Xz h z (by omega) e
 rw[hr] at k1;have h0:dI (S++G) m y:=h.only (F:=[]) aU.rq (by simp)
 obtain⟨S1,y1,k2,k3,k4⟩:=aiW h0 z hn e hr;obtain⟨S',k5,k6,k7⟩:=Ep h z e.t k1 h0 k3.a k2 k3.z6 k4 hn;have k3f:∀j∈fp y1,j∈fp y\/S.length<=j:=λj hj=>(k3.fp j hj).imp id λq=>by rw[zaf] at q;omega
 exact⟨S',y1,k5,⟨k6,((aU.rq (F:=fp y)).trans k3.on).fresh k7 k3f,k3.a,k3f⟩,k4.dN⟩
theorem Hf (h:dI S m y)(z:Sz m n)(hn:n+1<=1000)(e:bE)(w:Str)(hr:i_ m e=some w):∃S0,al8 S S0/\kX [.hd y.a,e.t] S = .ex S0.length (S0++[.sL "NotLet" [("rule",.str w),("number",.int 0)]]):=by
 obtain⟨G,k1⟩:=Xz h z (by omega) e
 rw[hr] at k1;exact⟨S++G,⟨G,rfl⟩,I_ w (Cq hr).2 e.t h.a k1⟩
end
theorem Eu {α:Type}{l:List α}{i:Int}(h0:0<=i)(h1:i<l.length):∃x∈l,ig l i=some x:=by
 obtain⟨j,hj⟩:=zbG h0;have FJ:j<l.length:=by omega
 exact⟨l[j],zcm FJ,by rw[hj];exact gq (zae FJ)⟩
theorem gP {l:List Str}{i:Int}(h0:0<=i)(h1:i<l.length):∃x∈l,ig (l.map Tr.str) i=some (.str x):=by
 obtain⟨t,ht,e⟩:=Eu (l:=l.map Tr.str) h0 (by simpa using h1)
 obtain⟨x,hx,rfl⟩:=zbl.mp ht;exact⟨x,hx,e⟩
theorem Hg {l:List Str}{n m:Int}(hm:m=l.length)(h0:0<m):∃x∈l,ig (l.map Tr.str) (n % m)=some (.str x):=gP (zcR _ (by omega)) (by rw[<-hm];exact zcB _ h0)
noncomputable def XA:List Str:=["bat","bat","bat","bye","leg","wide","no","nobye"]
noncomputable def vp (m:M):Str:=match k_ m with|none => "" |some s=>i8 m s
noncomputable def fB (m:M)(x:I):Tr:=.tp [.str (i8 m x.bZ),.int x.Cf,.int x.wk,.int x.ov,.int x.ba,.str x.en]
structure XC where
 a:Int
 b:Int
 c:Int
 f:Str
 o:Str
 w:Str
 e:B
 q:Str
noncomputable def XC.t (r:XC):Tr:=.tp [.int r.a,.int r.b,.int r.c,.str r.f,.str r.o,.str r.w,r.e.t,.str r.q]
section
variable {S:Cs}{m:M}{y:Ly}{n:Nat}
theorem yo (h:dI S m y)(z:Sz m n):BZ [.hd y.a] S = .ok (aD m.t0 m.t1 m.p0 m.p1) S:=by
 unfold BZ;have ha:=h.a;unfold mF aD at *
 simp?[fx,ha]
theorem Ew (z:Sz m n):fV m=0\/fV m=1:=by
 unfold fV;cases h:m.pl.getLast? with
 |none=>exact .inl rfl
 |some x=>exact z.bZ x (List.mem_of_getLast? h)
theorem adC (z:Sz m n)(e:k_ m=some s):s=0\/s=1:=by
 unfold k_ at e
 have:=Ew z
 repeat' split at e
 all_goals first | (cases e;done) | (cases e;omega)
theorem OV (h:dI S m y)(z:Sz m n)(hn:n<=1000):vm [.hd y.a] S = .ok (.str (vp m)) S:=by
 unfold vm vp;have k1:=OJ h z hn;have ha:=h.a;unfold mF aD at *
 cases hq:k_ m with
 |none=>rw[hq] at k1;simp?[fx,ha,k1,lE]
 |some s =>
  rw[hq] at k1;have k2:=@mq m s (adC z hq)
  simp?[fx,ha,k1,lE,k2]
theorem aiX (h:dI S m y){rs:List XC}(hr:m.gG=rs.map XC.t):G1 [.hd y.a] S = .ok (.ls m.gG) S:=by
 unfold G1;have ha:=h.a;have hl:=h.l;unfold mF at ha;refine e_ (S1:=S) (t:=.ls m.gG) ?_ (zaH ..) ?_
 ·simp?[fx,ha,hl]
 ·unfold nK
  have:Tr.aE S.length (.ls m.gG)=true:=by
   rw[aad,zaS,hr];intro t ht;obtain⟨r,_,rfl⟩:=zbl.mp ht;unfold XC.t B.t;simp only[nL,kC,oU,L7,zau,zax,zay]
  simp only[this];rfl
theorem yq (h:dI S m y)(z:Sz m n)(hn:n<=1000):B4 [.hd y.a] S = .ok (.ls (m.pl.map (fB m))) S:=by
 unfold B4;refine e_ (S1:=S++[.bM (m.pl.map (fB m))]) (t:=.hd S.length) ?_ (wQ _ _) ?_
 ·have ha:=h.a
  have hp:=h.p;have dm:=h.len;have iA:=z.pl;unfold mF aD at ha;have lp:=aH h.p;have la:=aH h.a;simp?[fx,ha,hp];have hp1:(S++[Ce.bM []])[y.p]? = some (.bM (y.cs.map λc=>.hd c.i)):=by rw[zaj lp];exact hp
  have Lc:∀q,(S++[Ce.bM q])[y.a]? = some (.d_ "Match" (mF m y)):=λq=>by rw[zaj la];exact h.a
  unfold mF aD at Lc;simp?[fx,Lc,hp1];generalize hZ:fP _ _ _ _ _ _=Z
  obtain⟨τ,S',hI,rfl⟩:=gk hZ (λi τ S'=>(∃v,τ=[some (.hd y.a),some (.hd S.length),v])/\S'=S++[.bM ((m.pl.take i).map (fB m))]) (λi τ S' hh=>by
   show cD S' y.p=_
   rw[hh.2];unfold cD;rw[zaj lp,hp]) ⟨⟨_,rfl⟩,by simp⟩ (λi t τ S' ht hh=>by
   obtain⟨⟨v,rfl⟩,rfl⟩:=hh
   rw[zaq] at ht;cases hc:y.cs[i]? with
   |none=>rw[hc] at ht;cases ht
   |some c =>
    rw[hc] at ht;cases ht;have hi:i<m.pl.length:=by rw[<-dm];exact (zab.mp hc).1
    have hx:=zae hi
    generalize hxx:m.pl[i]=x at hx
    have hI:=(h.qf i x c hx hc).i
    have k2:=@mq m x.bZ (z.bZ x (by rw[<-hxx];exact zcm hi))
    have hI1:∀q,(S++[Ce.bM q])[c.i]? = some (.d_ "Innings" (iM x c)):=λq=>by rw[zaj (aH hI)];exact hI
    have hz:((m.pl.take i).length<sizeLine)=True:=g_ (by simp;omega)
    unfold iM at hI1;refine⟨[some (.hd y.a),some (.hd S.length),some (.hd c.i)],_,.inl ?_,⟨_,rfl⟩,rfl⟩
    have et:(m.pl.take (i+1)).map (fB m)=(m.pl.take i).map (fB m)++[fB m x]:=by rw[zdc,hx];simp
    rw[et];unfold fB;simp?[fx,Lc,hI1,k2,G8,sa0,hz])
  obtain⟨⟨v,rfl⟩,rfl⟩:=hI
  have el:(y.cs.map λc:L3=>Tr.hd c.i).length=m.pl.length:=by simpa using dm
  rw[el,zaH];simp only[↓bp,bx,simprocAttr]
 ·unfold nK
  have hq:cD (S++[.bM (m.pl.map (fB m))]) S.length=some (m.pl.map (fB m)):=by unfold cD;rw[G8]
  have:((m.pl.map (fB m)).all (Tr.aE S.length))=true:=by
   rw[zaS];intro t ht;obtain⟨r,_,rfl⟩:=zbl.mp ht;unfold fB;simp only[nL,kC,oU,zau,zax,zay]
  simp only[hq,zaP,if_false,fR,this,if_true]
end
structure Dr (m:M) (d n:Nat):Prop where
 z:Sz m n
 hn:n<=1000
 p0:m.p0.length=d
 p1:m.p1.length=d
 d2:2<=d
 lF:d<=11
 rs:∃rs:List XC,m.gG=rs.map XC.t
theorem XD:i8 m s=m.t0\/i8 m s=m.t1:=by unfold i8;split<;>simp
theorem TM (D:Dr m d n)(s:Int):(ie m s).length=d:=by
 unfold ie;split
 ·exact D.p0
 ·exact D.p1
theorem TN (m:M):(pe m).gG=m.gG:=by unfold pe;split<;>rfl
theorem adD (m:M):(pe m).p0=m.p0:=by unfold pe;split<;>rfl
theorem adE (m:M):(pe m).p1=m.p1:=by unfold pe;split<;>rfl
theorem aiY (m:M)(a b:Str):(Jb m a b).p0=m.p0.map (mZ a b)/\(Jb m a b).p1=m.p1.map (mZ a b)/\(Jb m a b).gG=m.gG:=by unfold Jb;split<;>exact⟨rfl,rfl,rfl⟩
theorem aiZ (m:M):(Jc m).p0=m.p0/\(Jc m).p1=m.p1/\(Jc m).gG=m.gG:=by unfold Jc;split<;>exact⟨rfl,rfl,rfl⟩
theorem adF (m:M)(x:I)(e:bE):(nX m x e).p0=m.p0/\(nX m x e).p1=m.p1/\((nX m x e).gG=m.gG\/∃b,(nX m x e).gG=m.gG++[i9 m x b]):=by
 unfold nX;split
 ·exact⟨rfl,rfl,.inr ⟨_,rfl⟩⟩
 all_goals exact⟨rfl,rfl,.inl rfl⟩
theorem ai0 (m:M)(e:bE):(OT m e).p0.length=m.p0.length/\(OT m e).p1.length=m.p1.length/\((OT m e).gG=m.gG\/∃x b,(OT m e).gG=m.gG++[i9 m x b]):=by
 have DI:∀e,(match g5 m with|some x=>nX m x e|none=>m).p0.length=m.p0.length/\(match g5 m with|some x=>nX m x e|none=>m).p1.length=m.p1.length/\((match g5 m with|some x=>nX m x e|none=>m).gG=m.gG\/∃x b,(match g5 m with|some x=>nX m x e|none=>m).gG=m.gG++[i9 m x b]):=λe=>by
  cases g5 m with
  |none=>exact⟨rfl,rfl,.inl rfl⟩
  |some x =>
   obtain⟨h1,h2,h3⟩:=adF m x e;exact⟨by simp only[h1],by simp only[h2],h3.imp id λ⟨b,q⟩=>⟨x,b,q⟩⟩
 cases e with
 |cS t f o b=>exact⟨rfl,rfl,.inl rfl⟩
 |swap a b =>
  obtain⟨h1,h2,h3⟩:=aiY m a b;show (Jb m a b).p0.length=_/\(Jb m a b).p1.length=_/\((Jb m a b).gG=_\/∃x c,(Jb m a b).gG=m.gG++[i9 m x c])
  rw[h1,h2,h3];exact⟨by simp,by simp,.inl rfl⟩
 |gB=>exact⟨rfl,rfl,.inl rfl⟩
 |jS =>
  obtain⟨h1,h2,h3⟩:=aiZ m;show (Jc m).p0.length=_/\(Jc m).p1.length=_/\((Jc m).gG=_\/∃x c,(Jc m).gG=m.gG++[i9 m x c])
  rw[h1,h2,h3];exact⟨rfl,rfl,.inl rfl⟩
 |nU b=>exact DI _
 |qf b=>exact DI _
 |nV b=>exact DI _
 |nW b=>exact DI _
 |eV=>exact DI _
theorem Dr.adG (D:Dr m d n)(e:bE)(z:Sz (ja m e) (n+1))(hn:n+1<=1000):Dr (ja m e) d (n+1):=by
 obtain⟨h1,h2,h3⟩:=ai0 m e;refine⟨z,hn,?_,?_,D.d2,D.lF,?_⟩
 ·unfold ja;rw[adD,h1,D.p0]
 ·unfold ja;rw[adE,h2,D.p1]
 ·unfold ja
  rw[TN];obtain⟨rs,er⟩:=D.rs;rcases h3 with q|⟨x,b,q⟩
  ·exact⟨rs,by rw[q,er]⟩
  ·refine⟨rs++[⟨(m.pl.length:Int) - 1,x.ov,x.ba,x.m_,x.qe,x.vG,b,x.Dp b⟩],?_⟩
   rw[q,er,zaK];rfl
theorem Dr.mono (D:Dr m d n)(h:n<=n')(hn:n'<=1000):Dr m d n':=⟨D.z.mono h,hn,D.p0,D.p1,D.d2,D.lF,D.rs⟩
theorem yr:∀{l:List Tr},(∀t∈l,t.dp<=n)->Tr.qU l<=n
 |[],_=>by unfold Tr.qU;exact zcF _
 |t::l,h=>by
  unfold Tr.qU;exact Nat.max_le.mpr ⟨h t (by simp),yr λu hu=>h u (by simp[hu])⟩
theorem OW:∀{l:List Tr} {t:Tr},t∈l->t.dp<=Tr.qU l
 |u::l,t,h=>by
  unfold Tr.qU;rcases zao.mp h with rfl|h
  ·exact Nat.le_max_left ..
  ·exact zai (OW h) (Nat.le_max_right ..)
theorem XE (S:Cs):∀(n:Nat) (t:Tr),t.mJ=true->t.dp<=n->vw n S t=t
 |0,t,_,_=>by cases t<;>rfl
 |n+1,t,h,hd=>by
  have key:∀l:List Tr,Tr.lC l=true->Tr.qU l<=n->l.map (vw n S)=l:=λl h1 h2=>by
   rw[fS,zaS] at h1;have:l.map (vw n S)=l.map _root_.id:=zcq λt ht=>XE S n t (h1 t ht) (zai (OW ht) h2)
   rw[this,List.map_id]
  cases t with
  |tp l =>
   unfold Tr.mJ at h;unfold Tr.dp at hd;show Tr.tp (l.map (vw n S))=_
   rw[key l h (by omega)]
  |ls l =>
   unfold Tr.mJ at h;unfold Tr.dp at hd;show Tr.ls (l.map (vw n S))=_
   rw[key l h (by omega)]
  |hd i=>unfold Tr.mJ at h;cases h
  |kl l=>unfold Tr.mJ at h;cases h
  |kt l=>unfold Tr.mJ at h;cases h
  |_=>rfl
noncomputable def Hh (S:Cs)(t:Tr)(l:List Tr):Prop:=t = .ls l\/∃k,t = .hd k/\S[k]? = some (.bM l)
theorem Hh.vw (h:Hh S t l)(hn:Tr.lC l=true)(hd:Tr.qU l<=5):vw 6 S t = .ls l:=by
 have key:l.map (L2.vw 5 S)=l:=by
  rw[fS,zaS] at hn;have:l.map (L2.vw 5 S)=l.map _root_.id:=zcq λt ht=>XE S 5 t (hn t ht) (zai (OW ht) hd)
  rw[this,List.map_id]
 rcases h with rfl|⟨k,rfl,hk⟩
 ·show Tr.ls (l.map (L2.vw 5 S))=_
  rw[key]
 ·show (match cD S k with|some l=>Tr.ls (l.map (L2.vw 5 S))|none=>.hd k)=_
  have:cD S k=some l:=by unfold cD;rw[hk]
  rw[this];simp only[key]
theorem Cr (h1:Hh S t1 l)(h2:Hh S t2 l)(hn:Tr.lC l=true)(hd:Tr.qU l<=5):cX neg t1 t2 S = .ok (.bl (!neg)) S:=by
 have e1:=h1.vw hn hd;have e2:=h2.vw hn hd;have e0:LH t1 t2=none:=by
  rcases h1 with rfl|⟨k,rfl,_⟩<;>rcases h2 with rfl|⟨k,rfl,_⟩<;>rfl
 unfold cX;rw[e0];simp only
 rw[e1,e2,if_pos];refine⟨rfl,by unfold Tr.mJ;exact hn,by unfold Tr.dp;omega,by unfold Tr.dp;omega⟩
noncomputable def vS (m:M):Tr:=if k9 m=false then .bu else if m.clo=true then .tp [.str "closed"] else if kZ m 0=0 then .tp [.str "tie"] else .tp [.str "won",.str (i8 m (if 0<kZ m 0 then 0 else 1))]
theorem XF (h:dI S m y)(z:Sz m n)(hn:n<=1000):BX [.hd y.a] S = .ok (vS m) S:=by
 unfold BX vS;have k1:=zS h z hn;have k2:=zR h 0 (zai z.pl hn)
 have ha:=h.a;unfold mF aD at ha;cases hd:k9 m with
 |false =>
  rw[hd] at k1;rw[if_pos rfl];refine e_ (S1:=S) (t:=.bu) ?_ (zaH ..) (by unfold nK;simp only[FH];rfl)
  simp?[fx,ha,k1]
 |true =>
  rw[hd] at k1;rw[if_neg (by simp)]
  cases hc:m.clo with
  |true =>
   rw[hc] at ha;rw[if_pos rfl];refine e_ (S1:=S) (t:=.tp [.str "closed"]) ?_ (zaH ..) (by unfold nK;simp only[fR,nL,kC,zau,zax,zay];rfl)
   simp?[fx,ha,k1]
  |false =>
   rw[hc] at ha;rw[if_neg (by simp)]
   by_cases h0:kZ m 0=0
   ·rw[if_pos h0]
    rw[h0] at k2;refine e_ (S1:=S) (t:=.tp [.str "tie"]) ?_ (zaH ..) (by unfold nK;simp only[fR,nL,kC,zau,zax,zay];rfl)
    simp?[fx,ha,k1,k2]
   ·rw[if_neg h0]
    refine e_ (S1:=S) (t:=.tp [.str "won",.str (i8 m (if 0<kZ m 0 then 0 else 1))]) ?_ (zaH ..) (by unfold nK;simp only[fR,nL,kC,zau,zax,zay];rfl)
    by_cases hp:0<kZ m 0<;>simp?[fx,ha,k1,k2,h0,hp,wI,i8]
noncomputable def Jf (m:M):Tr:=.ls [jA m,.ls (m.pl.map (fB m)),.str (vp m),aD m.t0 m.t1 m.p0 m.p1,vS m,.ls m.gG]
theorem XG (h:dI S m y)(D:Dr m d n):Cb [.hd y.a] S = .ok (Jf m) S:=by
 obtain⟨rs,hr⟩:=D.rs;have k1:=G9 h D.z D.hn;have k2:=yq h D.z D.hn;have k3:=OV h D.z D.hn;have k4:=yo h D.z;have k5:=XF h D.z D.hn;have k6:=aiX h hr;have ha:=h.a;unfold mF at ha;unfold Cb Jf;simp?[fx,ha,k1,k2,k3,k4,k5,k6]
theorem Ct (l:List Str):Tr.lC (l.map .str)=true:=by
 rw[fS,zdE,zaS];intro _ _;rfl
theorem Hi (l:List Str):Tr.qU (l.map .str)<=1:=yr λt ht=>by
 obtain⟨r,_,rfl⟩:=zbl.mp ht;simp[Tr.dp]
theorem TQ (D:Dr m d n):∃l,Jf m = .ls l/\Tr.lC l=true/\Tr.qU l<=5:=by
 obtain⟨rs,hr⟩:=D.rs;have n1:(jA m).mJ=true/\(jA m).dp<=4:=by
  unfold jA;split<;>exact⟨by rfl,by simp[Tr.dp,Tr.qU]⟩
 have n2:Tr.lC (m.pl.map (fB m))=true/\Tr.qU (m.pl.map (fB m))<=3:=by
  refine⟨?_,yr λt ht=>?_⟩
  ·rw[fS,zdE,zaS]
   intro _ _;rfl
  ·obtain⟨r,_,rfl⟩:=zbl.mp ht
   simp[fB,Tr.dp,Tr.qU]
 have n3:Tr.lC m.gG=true/\Tr.qU m.gG<=4:=by
  rw[hr];refine⟨?_,yr λt ht=>?_⟩
  ·rw[fS,zdE,zaS]
   intro _ _;rfl
  ·obtain⟨r,_,rfl⟩:=zbl.mp ht
   simp[XC.t,B.t,Tr.dp,Tr.qU]
 have n4:(vS m).mJ=true/\(vS m).dp<=4:=by
  unfold vS;repeat' split
  all_goals exact⟨by rfl,by simp[Tr.dp,Tr.qU]⟩
 have n5:=Ct m.p0;have n6:=Ct m.p1;have d5:=Hi m.p0;have d6:=Hi m.p1;refine⟨_,rfl,?_,?_⟩
 ·simp only[fS,zau,zax,zel,zbv]
  refine⟨n1.1,?_,rfl,?_,n4.1,?_⟩
  ·unfold Tr.mJ;exact n2.1
  ·unfold aD Tr.mJ
   simp only[fS,zau,zax,zel,zbv];refine⟨?_,?_⟩<;>unfold Tr.mJ<;>simp only[fS,zau,zax,zel,zbv]<;>refine⟨rfl,?_⟩<;>unfold Tr.mJ
   ·exact n5
   ·exact n6
  ·unfold Tr.mJ;exact n3.1
 ·refine yr λt ht=>?_
  simp only[zao,zbe,or_false] at ht;rcases ht with rfl|rfl|rfl|rfl|rfl|rfl
  ·omega
  ·unfold Tr.dp;omega
  ·unfold Tr.dp;omega
  ·unfold aD
   simp only[Tr.dp,Tr.qU];omega
  ·omega
  ·unfold Tr.dp;omega
theorem adH (D:Dr m d n)(neg:Bool)(S:Cs):cX neg (Jf m) (Jf m) S = .ok (.bl (!neg)) S:=by
 obtain⟨l,e,h1,h2⟩:=TQ D;rw[e];exact Cr (.inl rfl) (.inl rfl) h1 h2
noncomputable def dig (c:Int):Nat->Int
 |0=>c
 |n+1=>dig c n / 60
theorem TR (c:Int)(a0:0<=a)(a1:a<1000)(h0:0<cU)(h1:cU<1000000)(S:Cs):Gn [.int c,.int a,.int cU] S = .ok (.int (dig c a.toNat % cU)) S:=by
 obtain⟨n,rfl⟩:=zbG a0;have c1:(0<cU)=True:=eq_true h0
 have c2:(cU<1073741824)=True:=eq_true (by omega)
 have hr:(-4611686018427387904<=(n:Int)/\(n:Int)<4611686018427387904)=True:=eq_true (by omega)
 unfold Gn;rw[zbo];simp?[hr,zbo];generalize hZ:fP _ _ _ _ _ _=Z
 obtain⟨τ,S',⟨⟨v,rfl⟩,rfl⟩,rfl⟩:=gk hZ (λi τ S'=>(∃v,τ=[some (.int (dig c i)),some (.int (n:Int)),some (.int cU),v])/\S'=S) (λ_ _ _ _=>trivial) ⟨⟨_,rfl⟩,rfl⟩ (by
  rintro i t τ S' ht ⟨⟨v,rfl⟩,rfl⟩
  obtain⟨jc,rfl⟩:=oV ht;refine⟨[some (.int (dig c i / 60)),some (.int (n:Int)),some (.int cU),some (.int (0+(i:Int)))],S',.inl ?_,⟨_,rfl⟩,rfl⟩
  simp only[↓bp,bx,simprocAttr])
 rw[oW];simp?[c1,c2]
noncomputable def dv (cs:List Int)(k cU:Int):Int:=
 let c:=(ig cs (k % (cs.length:Int))).getD 0
 if cs.length % 2=1 then dig c (k / (cs.length:Int) % 20).toNat % cU else (c % 2147483647+7 * k+3) * (48271+1103 * k * k) % 2147483629 / 64 % cU
theorem yt (cs:List Int)(k:Int)(h0:0<cU):0<=dv cs k cU/\dv cs k cU<cU:=by
 unfold dv;dsimp only;split<;>exact⟨zcR _ (by omega),zcB _ h0⟩
theorem Cu:ig (cs.map Tr.int) i=(ig cs i).map Tr.int:=by
 unfold ig;rw[zac];cases Aa cs.length i with
 |none=>rfl
 |some j=>simp
theorem qh (cs:List Int)(hl:cs.length<=100)(k0:0<=k)(k1:k<10000)(h0:0<cU)(h1:cU<1000000)(S:Cs):cN [.ls (cs.map .int),.int k,.int cU] S = .ok (.int (dv cs k cU)) S:=by
 have c1:(0<cU)=True:=eq_true h0
 have c2:(cU<1073741824)=True:=eq_true (by omega)
 have z1:(cs.length<=sizeLine)=True:=bA (by omega)
 unfold cN dv;dsimp only;cases cs with
 |nil =>
  have e0:ig ([]:List Int) (k % ((0:Nat):Int))=none:=by
   unfold ig Aa;repeat' split
   all_goals simp
  rw[if_neg (by decide)]
  simp only[zaG] at e0 ⊢
  rw[e0];simp?[c1,c2,wI,zck,A5];rw[oJ (by omega),oJ (by omega)]
 |cons x r =>
  have hp:(0<((r.length+1:Nat):Int))=True:=eq_true (by omega)
  have hl':r.length+1<=100:=by simpa using hl
  have hq:(((r.length+1:Nat):Int)<1073741824)=True:=eq_true (by omega)
  obtain⟨c,_,ec⟩:=zf (l:=x::r) (n:=k) (m:=((r.length+1:Nat):Int)) (by simp) (by omega)
  have et:ig ((x::r).map Tr.int) (k % ((r.length+1:Nat):Int))=some (.int c):=by rw[Cu,ec];rfl
  have ed:=λS=>TR c (a:=k / ((r.length+1:Nat):Int) % 20) (zcR _ (by decide)) (Int.lt_trans (zcB _ (by decide)) (by decide)) h0 h1 S
  simp only[FW] at *
  rw[ec,zcJ];generalize hX:(x::r).map Tr.int=X at *
  have lX:X.length=r.length+1:=by rw[<-hX];simp
  by_cases q:(r.length+1) % 2=1
  ·have q':((r.length+1:Nat):Int) % 2=1:=by omega
   rw[if_pos q];simp?[c1,c2,z1,wI,lX,hp,hq,et,q',ed]
  ·have q':¬ ((r.length+1:Nat):Int) % 2=1:=by omega
   rw[if_neg q];simp?[c1,c2,z1,wI,lX,hp,hq,et,q'];rw[oJ (by omega),oJ (by omega)]
theorem vq {l:List Int}{i:Int}(h0:0<=i)(h1:i<l.length):∃x∈l,ig (l.map Tr.int) i=some (.int x):=by
 obtain⟨t,ht,e⟩:=Eu (l:=l.map Tr.int) h0 (by simpa using h1)
 obtain⟨x,hx,rfl⟩:=zbl.mp ht;exact⟨x,hx,e⟩
theorem OX (cs:List Int)(hl:cs.length<=100)(S:Cs):∃u:U,Gp [.ls (cs.map .int)] S = .ok u.t S/\2<=u.d/\u.d<=11:=by
 have D:=λ(k cU:Int) (k0:0<=k) (k1:k<10000) (h0:0<cU) (h1:cU<1000000)=>And.intro (yt cs k h0) (qh cs hl k0 k1 h0 h1 S)
 obtain⟨⟨a1,b1⟩,e1⟩:=D 900 3 (by decide) (by decide) (by decide) (by decide)
 obtain⟨⟨a2,b2⟩,e2⟩:=D 901 5 (by decide) (by decide) (by decide) (by decide)
 obtain⟨⟨a3,b3⟩,e3⟩:=D 902 4 (by decide) (by decide) (by decide) (by decide)
 obtain⟨⟨a4,b4⟩,e4⟩:=D 903 4 (by decide) (by decide) (by decide) (by decide)
 obtain⟨⟨a5,b5⟩,e5⟩:=D 904 3 (by decide) (by decide) (by decide) (by decide)
 obtain⟨⟨a6,b6⟩,e6⟩:=D 905 3 (by decide) (by decide) (by decide) (by decide)
 obtain⟨⟨a7,b7⟩,e7⟩:=D 906 8 (by decide) (by decide) (by decide) (by decide)
 obtain⟨⟨a8,b8⟩,e8⟩:=D 907 2 (by decide) (by decide) (by decide) (by decide)
 obtain⟨x2,_,f2⟩:=vq (l:=[0,1,2,3,4]) a2 b2
 obtain⟨x3,_,f3⟩:=vq (l:=[0,0,1,2]) a3 b3
 obtain⟨x4,_,f4⟩:=vq (l:=[0,1,3,8]) a4 b4
 obtain⟨x7,hx,f7⟩:=vq (l:=[2,3,4,2,3,4,9,11]) a7 b7
 have h7:2<=x7/\x7<=11:=by
  simp only[zao,zbe,or_false] at hx;omega
 simp only[tK,A5] at f2 f3 f4 f7;refine⟨⟨1+dv cs 900 3,x2,x3,dv cs 904 3,dv cs 905 3,x7,1+dv cs 907 2,x4⟩,?_,h7⟩
 unfold Gp U.t;generalize cs.map Tr.int=X at *
 simp?[e1,e2,e3,e4,e5,e6,e7,e8,f2,f3,f4,f7]
noncomputable def OY:Str:= "bcdfghjkmnpqvwxz"
theorem TU (i:Int):∃c,ig OY.cps.toList (i % 16)=some c:=by
 obtain⟨c,_,e⟩:=zf (l:=OY.cps.toList) (n:=i) (m:=16) (by decide +kernel) (by decide)
 exact⟨c,e⟩
theorem adI {v:Int}(h0:0<=v)(h1:v<2):(sE (Str.ofString "zq") v.toNat).length<=9/\(Str.ofString "zq").length * v.toNat<=1000000:=by
 have h:∀n:Fin 5,(sE (Str.ofString "zq") n).length<=9:=by decide +kernel
 have e:(Str.ofString "zq").length=2:=by decide +kernel
 exact⟨h ⟨v.toNat,by omega⟩,by rw[e];omega⟩
theorem adJ (h0:0<=v)(h1:v<4):(Txt.slice (Str.ofString "vzb") none (some v)).length<=9:=by
 have h:∀n:Fin 5,(Txt.slice (Str.ofString "vzb") none (some ((n:Nat):Int))).length<=9:=by decide +kernel
 have:=h ⟨v.toNat,by omega⟩
 simpa[Int.toNat_of_nonneg h0] using this
theorem OZ (cs:List Int)(hl:cs.length<=100)(sd:Nat)(h2:2<=sd)(h11:sd<=11)(S:Cs):∃(t0 t1:Str) (p0 p1:List Str),Gq [.ls (cs.map .int),.int sd] S = .ok (aD t0 t1 p0 p1) S/\p0.length=sd/\p1.length=sd:=by
 have D:=λ(k cU:Int) (k0:0<=k) (k1:k<10000) (h0:0<cU) (h1:cU<1000000)=>And.intro (yt cs k h0) (qh cs hl k0 k1 h0 h1 S)
 obtain⟨⟨a1,b1⟩,e1⟩:=D 908 2 (by decide) (by decide) (by decide) (by decide)
 obtain⟨⟨a2,b2⟩,e2⟩:=D 909 4 (by decide) (by decide) (by decide) (by decide)
 obtain⟨⟨a3,b3⟩,e3⟩:=D 910 16 (by decide) (by decide) (by decide) (by decide)
 obtain⟨r1,r2⟩:=adI a1 b1;have r3:=adJ a2 b2;have c1:(0<=dv cs 908 2)=True:=eq_true a1
 have c2:(dv cs 908 2<1000000)=True:=eq_true (by omega)
 have c3:((Str.ofString "zq").length * (dv cs 908 2).toNat<=1000000)=True:=eq_true r2
 have c4:((Str.ofString "vzb").length<=sizeLine)=True:=bA (by decide +kernel)
 generalize hA:sE (Str.ofString "zq") (dv cs 908 2).toNat=A at *
 generalize hB:Txt.slice (Str.ofString "vzb") none (some (dv cs 909 4))=B at *
 generalize dv cs 910 16=f at *
 have hL:(OY.length<=sizeLine)=True:=bA (by decide +kernel)
 have XH:=TU;unfold Gq;rw[show Str.ofString "bcdfghjkmnpqvwxz"=OY from rfl];generalize OY=L at *
 generalize cs.map Tr.int=X at *
 have r16:(-4611686018427387904<=(16:Int)/\(16:Int)<4611686018427387904)=True:=eq_true (by decide)
 simp?[e1,e2,e3,c1,c2,c3,c4,hA,hB,qA];generalize hZ:cY _ _ _ _ _ _ _ _=Z
 obtain⟨dU,amX,S2,⟨_,⟨nm,rfl,ln⟩,rfl⟩,rfl⟩:=wX hZ (λi τ cg S'=>(∃v,τ=[some (.str B),some (.str A),some (.str L),some (.int f),v])/\(∃p:List Str,cg=p.map .str/\p.length=i/\∀x∈p,x.length<=100)/\S=S') (λ_ _ _ _ _=>trivial) ⟨⟨_,rfl⟩,⟨[],rfl,rfl,by simp⟩,rfl⟩ (by rw[oW];decide) (by
  rintro i t τ cg S' ht ⟨⟨v,rfl⟩,⟨p,rfl,lp,hp⟩,rfl⟩
  obtain⟨jc,rfl⟩:=oV ht;obtain⟨c,ec⟩:=XH (f+(i:Int))
  have c5:(A.length+1<=sizeLine)=True:=bA (by omega)
  have c6:(A.length+1+B.length<=sizeLine)=True:=bA (by omega)
  refine⟨[some (.str B),some (.str A),some (.str L),some (.int f),some (.int (0+(i:Int)))],.str (A++⟨#[c]⟩++B),S,rfl,?_,⟨_,rfl⟩,⟨p++[A++⟨#[c]⟩++B],by simp,by simp[lp],λx hx=>?_⟩,rfl⟩
  ·simp?[ec,hL,c5,c6,zN,zO]
  ·rcases zbN.mp hx with q|q
   ·exact hp x q
   ·rw[zaw.mp q,zO,zO,zN];omega)
 rw[oW] at ln;obtain⟨ln,hnm⟩:=ln;obtain⟨t0,_,f0⟩:=gP (l:=nm) (i:=12) (by decide) (by rw[ln];decide)
 obtain⟨t1,_,f1⟩:=gP (l:=nm) (i:=13) (by decide) (by rw[ln];decide)
 have k1:pP (nm.map Tr.str) none (some (sd:Int))=(nm.take sd).map Tr.str:=by rw[zP,List.map_take]
 have k2:pP (nm.map Tr.str) (some 6) (some (6+(sd:Int)))=((nm.take (6+sd)).drop 6).map Tr.str:=by
  have:=SQ (nm.map Tr.str) 6 (6+sd) (by omega)
  rw[show ((6:Nat):Int)=6 from rfl,show ((6+sd:Nat):Int)=6+(sd:Int) by omega] at this
  rw[this,List.map_drop,List.map_take]
 have l0:(nm.take sd).length=sd:=by rw[zaQ,ln];omega
 have ht:∀x∈nm.take sd,x.length<=100:=λx hx=>hnm x (List.mem_of_mem_take hx)
 by_cases q:4<sd
 ·have q':(4<(sd:Int))=True:=eq_true (by omega)
  have hx1:(Str.ofString "x").length=1:=by decide +kernel
  simp?[wI,q',k1,k2,qA];generalize hZ:cY _ _ _ _ _ _ _ _=Z
  obtain⟨dU,amX,S2,⟨_,⟨p1,rfl,lp1⟩,rfl⟩,rfl⟩:=wX hZ (λi τ cg S'=>(∃v,τ=[v])/\(∃p:List Str,cg=p.map .str/\p.length=i)/\S=S') (λ_ _ _ _ _=>trivial) ⟨⟨_,rfl⟩,⟨[],rfl,rfl⟩,rfl⟩ (by simp[l0];omega) (by
   rintro i t τ cg S' ht' ⟨⟨v,rfl⟩,⟨p,rfl,lp⟩,rfl⟩
   rw[zaq] at ht';cases hc:(nm.take sd)[i]? with
   |none=>rw[hc] at ht';cases ht'
   |some x =>
    rw[hc] at ht';cases ht'
    have:=ht x (zaY hc)
    have c5:(x.length+1<=sizeLine)=True:=bA (by omega)
    refine⟨[some (.str x)],.str (x++Str.ofString "x"),S,rfl,?_,⟨_,rfl⟩,⟨p++[x++Str.ofString "x"],by simp,by simp[lp]⟩,rfl⟩
    simp?[c5,hx1])
  rw[zac,l0] at lp1;refine⟨t0,t1,nm.take sd,p1,?_,l0,lp1⟩
  unfold aD;simp?[k1,f0,f1,qA]
 ·have q':¬ (4<(sd:Int)):=by omega
  refine⟨t0,t1,nm.take sd,(nm.take (6+sd)).drop 6,?_,l0,?_⟩
  ·unfold aD
   simp?[wI,q',k1,k2,f0,f1,qA]
  ·rw[zdD,zaQ,ln]
   omega
theorem TX:(Tr.ls []).mJ=true:=by
 unfold Tr.mJ Tr.lC;rfl
theorem O0:(Tr.ls []).dp<=50/\(Tr.ls []).dp≠0:=by
 unfold Tr.dp Tr.qU;decide
theorem adK (h:vw 6 S t = .ls [])(hs:LH t (.ls [])=none):cX neg t (.ls []) S = .ok (.bl (!neg)) S:=by
 have e:vw 6 S (.ls []) = .ls []:=rfl
 have hc:vw 6 S t=vw 6 S (.ls [])/\(vw 6 S t).mJ=true/\(vw 6 S t).dp<=50/\(vw 6 S t).dp≠0:=by
  rw[h,e];exact⟨rfl,TX,O0.1,O0.2⟩
 unfold cX;rw[hs];exact if_pos hc
theorem Hj:A3 true (.ls l) (.ls []) S = .ok (.bl (!l.isEmpty)) S:=by
 unfold A3;show (if l.length=0 then _ else _)=_
 cases l with
 |nil =>
  rw[if_pos (show ([]:List Tr).length=0 from rfl),adK rfl rfl]
  rfl
 |cons x r =>
  rw[if_neg (by simp)]
  rfl
theorem adL (h:l≠[]):A3 true (.ls (l.map .str)) (.ls []) S = .ok (.bl true) S:=by
 cases l with
 |nil=>exact absurd rfl h
 |cons x r=>exact Hj
theorem TY (cs:List Int)(hl:cs.length<=100)(k0:0<=k)(k1:k<9000)(f o:Str)(s1:ig st 1=some (.str f))(s2:ig st 2=some (.str o))(S:Cs):∃b:B,Gr [.ls (cs.map .int),.int k,.tp st] S = .ok b.t S:=by
 have D:=λ(j cU:Int) (k0:0<=j) (k1:j<10000) (h0:0<cU) (h1:cU<1000000)=>And.intro (yt cs j h0) (qh cs hl k0 k1 h0 h1 S)
 obtain⟨⟨a1,b1⟩,e1⟩:=D k 8 (by omega) (by omega) (by decide) (by decide)
 obtain⟨⟨a2,b2⟩,e2⟩:=D (k+1) 8 (by omega) (by omega) (by decide) (by decide)
 obtain⟨⟨a3,b3⟩,e3⟩:=D (k+2) 9 (by omega) (by omega) (by decide) (by decide)
 obtain⟨⟨a4,b4⟩,e4⟩:=D (k+3) 2 (by omega) (by omega) (by decide) (by decide)
 obtain⟨⟨a5,b5⟩,e5⟩:=D (k+4) 2 (by omega) (by omega) (by decide) (by decide)
 obtain⟨⟨a6,b6⟩,e6⟩:=D (k+3) 5 (by omega) (by omega) (by decide) (by decide)
 obtain⟨⟨a7,b7⟩,e7⟩:=D (k+3) 4 (by omega) (by omega) (by decide) (by decide)
 obtain⟨kd,_,f1⟩:=gP (l:=XA) a1 b1
 obtain⟨r,_,f2⟩:=vq (l:=[0,0,1,1,2,3,4,6]) a2 b2
 obtain⟨w,_,f4⟩:=gP (l:=[f,o]) a4 b4
 obtain⟨en,_,f5⟩:=gP (l:=["strike","other"]) a5 b5
 obtain⟨wy,_,f6⟩:=gP (l:=["bowled","caught","before","stumped","hit"]) a6 b6
 simp only[XA,tK,A5] at f1 f2 f4 f5 f6;generalize cs.map Tr.int=X at *
 generalize dv cs k 8=v1 at *
 generalize dv cs (k+1) 8=v2 at *
 generalize dv cs (k+2) 9=v3 at *
 generalize dv cs (k+3) 2=v4 at *
 generalize dv cs (k+4) 2=v5 at *
 generalize dv cs (k+3) 5=v6 at *
 generalize dv cs (k+3) 4=v7 at *
 unfold Gr;simp?[e1,e2,e3,f1,f2];by_cases q0:v3=0
 ·refine⟨⟨kd,r,false,"run",w,en⟩,?_⟩
  unfold B.t;simp?[q0,e4,e5,f4,f5,s1,s2]
 ·by_cases q1:v3<3
  ·refine⟨⟨"bat",0,false,wy,"",""⟩,?_⟩
   unfold B.t;simp?[q0,q1,e6,f6,sW]
  ·refine⟨⟨kd,r,decide (v7=0),"","",""⟩,?_⟩
   unfold B.t;simp?[q0,q1,e7,sW]
noncomputable def lt8:Str:= "abcdefgh"
theorem adM (h0:0<=i)(h1:i<8):∃c,ig lt8.cps.toList i=some c:=by
 obtain⟨c,_,e⟩:=Eu (l:=lt8.cps.toList) (i:=i) h0 (by rw[show (lt8.cps.toList.length:Int)=8 by decide +kernel];exact h1)
 exact⟨c,e⟩
theorem ai3 (h:t=a\/t=b):∃j:Nat,((j:Int)=0\/(j:Int)=1)/\y9 (.str t) [.str a,.str b]=some j:=by
 by_cases h1:a=t
 ·refine⟨0,.inl rfl,?_⟩
  unfold y9;rw[if_pos (by simp[Pd,h1])]
 ·refine⟨1,.inr rfl,?_⟩
  have h2:b=t:=(h.resolve_left λq=>h1 q.symm).symm
  unfold y9;rw[if_neg (by simp[Pd,h1])]
  unfold y9;rw[if_pos (by simp[Pd,h2])]
  rfl
theorem Hl (a b c d e f g h:Tr):pP [a,b,c,d,e,f,g,h] (some 1) (some 3)=[b,c]:=rfl
theorem sx8:HT.gp 8 0 (some 1)=1:=rfl
section
variable {S:Cs}{m:M}{y:Ly}{n dd:Nat}
theorem O1 (cs:List Int)(hl:cs.length<=100)(h:dI S m y)(D:Dr m dd n)(k0:0<=k)(k1:k<8000)(tt:Tr):∃e:bE,B8 [.ls (cs.map .int),.int k,tt,.hd y.a] S = .ok e.t S:=by
 have W:=λ(j cU:Int) (k0:0<=j) (k1:j<10000) (h0:0<cU) (h1:cU<1000000)=>And.intro (yt cs j h0) (qh cs hl k0 k1 h0 h1 S)
 have qm:=G9 h D.z D.hn;have iA:=yo h D.z;have ht:=OV h D.z D.hn;have DI:=yq h D.z D.hn;have ha:=h.a;have d2:=D.d2;have lF:=D.lF;unfold mF at ha;obtain⟨PL,hPL⟩:∃PL,PL=[Tr.tp [.str m.t0,.ls (m.p0.map .str)],Tr.tp [.str m.t1,.ls (m.p1.map .str)]]:=⟨_,rfl⟩
 have i1:ig PL 1=some (.tp [.str m.t1,.ls (m.p1.map .str)]):=by rw[hPL];rfl
 have i0:ig PL 0=some (.tp [.str m.t0,.ls (m.p0.map .str)]):=by rw[hPL];rfl
 have s3:=λ(v:Int) (hv:v=0\/v=1)=>@mq m v hv
 have p3:=λ(v:Int)=>TM D v
 unfold aD at iA;rw[<-hPL] at iA;simp only[<-hPL] at s3;cases hg:g5 m with
 |none =>
  have hs:jA m = .bu:=by unfold jA;rw[hg]
  rw[hs] at qm;obtain⟨⟨a1,b1⟩,e1⟩:=W k 2 (by omega) (by omega) (by decide) (by decide)
  obtain⟨⟨a2,b2⟩,e2⟩:=W (k+1) 2 (by omega) (by omega) (by decide) (by decide)
  have zi:((m.pl.map (fB m)).length<=sizeLine)=True:=bA (by rw[zac];have:=D.z.pl;have:=D.hn;omega)
  generalize hIL:m.pl.map (fB m)=IL at *
  unfold B8;simp?[fx,ha,qm,iA,DI,zi];generalize hI:cO (mB (ai (cX true) (aF "Match" "turn" 1 vm (aa 3) ak) (mC (.str "")))) _ _=IF
  by_cases q1:(IL.length:Int)=2/\dv cs k 2=0
  ·refine⟨.gB,?_⟩
   generalize cs.map Tr.int=X at *
   simp?[fx,q1.1,q1.2,e1,bE.t]
  ·have key:∃j:Int,(j=0\/j=1)/\IF [some (.ls (cs.map .int)),some (.int k),some tt,some (.hd y.a),some .bu,some (.ls PL),some (.int (dv cs (k+1) 2)),none,none,none,none,none,none,none,none,none] S = .nx [some (.ls (cs.map .int)),some (.int k),some tt,some (.hd y.a),some .bu,some (.ls PL),some (.int j),none,none,none,none,none,none,none,none,none] S:=by
    subst hI;by_cases q:vp m=""
    ·exact⟨dv cs (k+1) 2,by omega,by simp?[fx,ha,ht,q]⟩
    ·obtain⟨j,hj,ej⟩:=ai3 (t:=vp m) (a:=m.t0) (b:=m.t1) (by
      unfold vp at q ⊢
      split
      ·rename_i r;rw[r] at q;exact absurd rfl q
      ·exact XD)
     refine⟨(j:Int),hj,?_⟩
     generalize vp m=tm at *
     simp?[fx,ha,ht,q,i0,i1,pR,ej,bJ,zau,zax,zay]
   obtain⟨j,j01,hIF⟩:=key;have s1:=s3 j j01;have s2:=s3 (1 - j) (by omega)
   have p1:=p3 j;have p2:=p3 (1 - j)
   generalize i8 m j=tj at *
   generalize i8 m (1 - j)=tk at *
   generalize ie m j=A at *
   generalize ie m (1 - j)=B at *
   obtain⟨⟨a3,b3⟩,e3⟩:=W (k+2) (A.length:Int) (by omega) (by omega) (by omega) (by omega)
   obtain⟨⟨a4,b4⟩,e4⟩:=W (k+3) (B.length:Int) (by omega) (by omega) (by omega) (by omega)
   obtain⟨x1,_,f1⟩:=gP (l:=A) a3 b3
   obtain⟨x2,_,f2⟩:=Hg (l:=A) (n:=dv cs (k+2) (A.length:Int)+1) (m:=(A.length:Int)) rfl (by omega)
   obtain⟨x3,_,f3⟩:=gP (l:=B) a4 b4
   have z1:(A.length<=sizeLine)=True:=bA (by omega)
   have z2:(B.length<=sizeLine)=True:=bA (by omega)
   have z3:(0<(A.length:Int))=True:=eq_true (by omega)
   have z4:((A.length:Int)<1073741824)=True:=eq_true (by omega)
   refine⟨.cS tj x1 x2 x3,?_⟩
   generalize cs.map Tr.int=X at *
   by_cases q2:(IL.length:Int)=2
   ·have q3:¬ dv cs k 2=0:=λz=>q1 ⟨q2,z⟩
    simp?[fx,q2,q3,e1,e2,hIF,s1,s2,e3,e4,f1,f2,f3,z1,z2,z3,z4,zac,bE.t]
   ·simp?[fx,q2,e2,hIF,s1,s2,e3,e4,f1,f2,f3,z1,z2,z3,z4,zac,bE.t]
 |some x =>
  have hs:∃r0 r1 r2 r3,jA m = .tp [.str (i8 m x.bZ),.str x.m_,.str x.qe,.str x.vG,r0,r1,r2,r3]:=by
   unfold jA;rw[hg];exact⟨_,_,_,_,rfl⟩
  obtain⟨r0,r1,r2,r3,hs⟩:=hs;rw[hs] at qm;clear hs
  obtain⟨j,j01,ej⟩:=ai3 (t:=i8 m x.bZ) (a:=m.t0) (b:=m.t1) XD
  generalize i8 m x.bZ=ts at *
  obtain⟨⟨a1,b1⟩,e1⟩:=W (k+4) 40 (by omega) (by omega) (by decide) (by decide)
  obtain⟨⟨a2,b2⟩,e2⟩:=W (k+5) 2 (by omega) (by omega) (by decide) (by decide)
  obtain⟨⟨a6,b6⟩,e6⟩:=W (k+6) 8 (by omega) (by omega) (by decide) (by decide)
  have s1:=s3 (j:Int) j01
  have s2:=s3 (1 - (j:Int)) (by omega)
  have p1:=p3 (j:Int)
  have p2:=p3 (1 - (j:Int))
  have dp0:=D.p0;have dp1:=D.p1;generalize i8 m (j:Int)=tj at *
  generalize i8 m (1 - (j:Int))=tk at *
  generalize ie m (j:Int)=A at *
  generalize ie m (1 - (j:Int))=B at *
  obtain⟨⟨a3,b3⟩,e3⟩:=W (k+5) (A.length:Int) (by omega) (by omega) (by omega) (by omega)
  obtain⟨⟨a4,b4⟩,e4⟩:=W (k+5) (B.length:Int) (by omega) (by omega) (by omega) (by omega)
  obtain⟨⟨a5,b5⟩,e5⟩:=W (k+5) ((m.p0++m.p1).length:Int) (by omega) (by omega) (by rw[zaf];omega) (by rw[zaf];omega)
  obtain⟨x1,_,f1⟩:=gP (l:=A) a3 b3
  obtain⟨x2,_,f2⟩:=gP (l:=B) a4 b4
  obtain⟨x3,_,f3⟩:=gP (l:=m.p0++m.p1) a5 b5
  obtain⟨c,f4⟩:=adM a6 b6;obtain⟨b,f5⟩:=TY cs hl (k:=k+5) (by omega) (by omega) x.m_ x.qe (st:=[.str ts,.str x.m_,.str x.qe,.str x.vG,r0,r1,r2,r3]) rfl rfl S
  have z1:(A.length<=sizeLine)=True:=bA (by omega)
  have z2:(B.length<=sizeLine)=True:=bA (by omega)
  have z3:(m.p0.length+m.p1.length<=sizeLine)=True:=bA (by omega)
  have z4:(lt8.length<=sizeLine)=True:=bA (by decide +kernel)
  have z5:((Str.ofString "sw").length+1<=sizeLine)=True:=bA (by decide +kernel)
  rw[zaK] at f3;rw[zaf] at e5 f3;unfold B8;rw[show Str.ofString "abcdefgh"=lt8 from rfl];generalize lt8=L at *
  generalize hX:cs.map Tr.int=X at *
  generalize dv cs (k+4) 40=v1 at *
  generalize dv cs (k+5) 2=v2 at *
  generalize dv cs (k+5) (A.length:Int)=v3 at *
  generalize dv cs (k+5) (B.length:Int)=v4 at *
  generalize dv cs (k+5) ((m.p0.length+m.p1.length:Nat):Int)=v5 at *
  generalize dv cs (k+6) 8=v6 at *
  simp?[fx,ha,qm,iA,i0,i1,pR,ej,bJ,zau,zax,zay,e1];by_cases q0:v1=0
  ·refine⟨.eV,?_⟩
   simp?[fx,q0,bE.t]
  ·generalize hC:gi _ _ _ _ _ _=C
   have key:∃th:List Str,th.length<=2/\∀v f o w,x.m_=f->x.qe=o->C [some (.ls X),some (.int k),some tt,some (.hd y.a),some (.tp [.str ts,.str f,.str o,.str w,r0,r1,r2,r3]),some (.ls PL),some (.int (j:Int)),none,none,none,none,none,some (.int v),none,none,none] S = .ok (.ls (th.map .str)) S:=by
    subst hC;by_cases g1:x.m_="" <;> by_cases g2:x.qe=""
    ·exact⟨[],by simp,λv f o w hf ho=>by rw[<-hf,<-ho];simp?[fx,Hl,sx8,zcT,g1,g2,iT,A5]⟩
    ·exact⟨[x.qe],by simp,λv f o w hf ho=>by rw[<-hf,<-ho];simp?[fx,Hl,sx8,zcT,g1,g2,iT,A5,tK]⟩
    ·exact⟨[x.m_],by simp,λv f o w hf ho=>by rw[<-hf,<-ho];simp?[fx,Hl,sx8,zcT,g1,g2,iT,A5,tK]⟩
    ·exact⟨[x.m_,x.qe],by simp,λv f o w hf ho=>by rw[<-hf,<-ho];simp?[fx,Hl,sx8,zcT,g1,g2,iT,A5,tK]⟩
   obtain⟨th,lth,Pg⟩:=key;have zt:(th.length<=sizeLine)=True:=bA (by omega)
   by_cases q1:v1=1/\th≠[]
   ·have tp:0<th.length:=List.length_pos_iff.mpr q1.2
    obtain⟨x4,_,f6⟩:=Hg (l:=th) (n:=v2) (m:=(th.length:Int)) rfl (by omega)
    have c1:(0<(th.length:Int))=True:=eq_true (by omega)
    have c2:((th.length:Int)<1073741824)=True:=eq_true (by omega)
    have g1:=adL (S:=S) q1.2
    refine⟨.nW x4,?_⟩
    simp?[fx,q0,q1.1,Pg,↓g1,e2,f6,zt,c1,c2,zac,bE.t]
   ·have q1':v1=1->A3 true (.ls (th.map .str)) (.ls []) S = .ok (.bl false) S:=λz=>by
     have:th=[]:=Classical.byContradiction λw=>q1 ⟨z,w⟩
     rw[Hj,this];rfl
    by_cases q2:v1=2
    ·refine⟨.swap x3 (Str.ofString "sw"++⟨#[c]⟩),?_⟩
     simp?[fx,q0,q2,Pg,i0,i1,e5,e6,f3,f4,z3,z4,z5,zN,zaf,zac,bE.t]
    ·by_cases q3:x.m_="" \/ x.qe=""
     ·refine⟨.qf x1,?_⟩
      by_cases q5:v1=1
      ·have g1:=q1' q5
       by_cases q4:x.m_=""
       ·simp?[fx,q5,Pg,↓g1,q4,s1,e3,f1,z1,zac,bE.t]
       ·have q6:=q3.resolve_left q4
        simp?[fx,q5,Pg,↓g1,q4,q6,s1,e3,f1,z1,zac,bE.t]
      ·by_cases q4:x.m_=""
       ·simp?[fx,q0,q2,q5,Pg,q4,s1,e3,f1,z1,zac,bE.t]
       ·have q6:=q3.resolve_left q4
        simp?[fx,q0,q2,q5,Pg,q4,q6,s1,e3,f1,z1,zac,bE.t]
     ·have q4:¬ x.m_="" := λz=>q3 (.inl z)
      have q6:¬ x.qe="" := λz=>q3 (.inr z)
      by_cases q7:x.vG=""
      ·refine⟨.nV x2,?_⟩
       by_cases q5:v1=1
       ·have g1:=q1' q5
        simp?[fx,q5,Pg,↓g1,q4,q6,q7,s2,e4,f2,z2,zac,bE.t]
       ·simp?[fx,q0,q2,q5,Pg,q4,q6,q7,s2,e4,f2,z2,zac,bE.t]
      ·refine⟨.nU b,?_⟩
       show _=R.ok b.t S
       generalize b.t=bt at *
       by_cases q5:v1=1
       ·have g1:=q1' q5
        simp?[fx,q5,Pg,↓g1,q4,q6,q7,f5]
       ·simp?[fx,q0,q2,q5,Pg,q4,q6,q7,f5]
end
theorem XI (w:Str):aQ (Str.ofString "rule") [(Str.ofString "rule",Tr.str w),(Str.ofString "number",Tr.int 0)]=some (.str w):=by kernel_rfl
section
variable {S:Cs}{m:M}{y:Ly}{n:Nat}
theorem adN (h:dI S m y)(z:Sz m n)(hn:n+1<=1000)(e:bE):∃S' y' m',GZ [.hd y.a,e.t] S = .ok (.str ((i_ m e).getD "")) S'/\OU S y S' m' y'/\Sz m' (n+1)/\m'=if i_ m e=none then ja m e else m:=by
 unfold GZ;have ha:=h.a;unfold mF at ha;cases hr:i_ m e with
 |none =>
  obtain⟨S',y',k1,k2,k3⟩:=z7 h z hn e hr;refine⟨S',y',_,?_,k2,k3,by rw[if_pos rfl]⟩
  simp?[fx,ha,k1,zck]
 |some w =>
  obtain⟨S0,⟨G,e0⟩,k1⟩:=Hf h z hn e w hr
  have on:aU [] S (S0++[.sL "NotLet" [("rule",.str w),("number",.int 0)]]):=by
   rw[e0,zbb];exact aU.rq
  refine⟨_,y,m,?_,⟨h.only on (by simp),on.mono (by simp),rfl,λj hj=>.inl hj⟩,z.mono (zbc n),by rw[if_neg (by simp)]⟩
  simp?[fx,ha,k1,G8,zaw,zcJ,XI]
end
noncomputable def eW (m:M):List bE->Option M
 |[]=>some m
 |e::r=>if i_ m e=none then eW (ja m e) r else none
theorem qi:∀{es:List bE} {m m':M} {e:bE},eW m es=some m'->eW m (es++[e])=if i_ m' e=none then some (ja m' e) else none
 |[],m,m',e,h=>by cases h;rfl
 |a::r,m,m',e,h=>by
  rw[zaL];unfold eW at h ⊢
  split at h
  ·rename_i q
   rw[if_pos q];exact qi h
  ·cases h
theorem adO (h:i_ m e=some w):¬ w="" := λz=>absurd (Cq h).1 (by rw[z];decide +kernel)
theorem TZ (e:bE)(k:Nat):Tr.aE k e.t=true:=by
 cases e<;>(unfold bE.t;try unfold B.t)<;>simp only[nL,kC,oU,L7,zau,zax,zay]
theorem Jg (h:aU [] S S'):S'.take S.length=S:=by
 apply List.ext_getElem?
 intro i;rw[List.getElem?_take];split
 ·exact h.2 i (by assumption) (by simp)
 ·rw[List.getElem?_eq_none (by omega)]
structure Fm (S S':Cs) (m:M) (y:Ly) (d n:Nat):Prop where
 z6:dI S' m y
 a:y.a=S.length
 fp:∀j∈fp y,S.length<=j
 on:aU [] S S'
 D:Dr m d n
section
variable {S S' S2:Cs}{m m2:M}{y y2:Ly}{d n n2:Nat}
theorem Fm.adP (h:Fm S S' m y d n)(T:OU S' y S2 m2 y2)(D:Dr m2 d n2):Fm S S2 m2 y2 d n2:=
 ⟨T.z6,T.a.trans h.a,λj hj=>(T.fp j hj).elim (h.fp j) λq=>zai h.on.1 q,h.on.fresh T.on λj hj=>.inr (h.fp j hj),D⟩
theorem Fm.init (u:U)(t0 t1:Str)(l0:p0.length=d)(l1:p1.length=d)(d2:2<=d)(lF:d<=11)(S:Cs):Fm S (lq S (cZ u t0 t1 p0 p1)) (cZ u t0 t1 p0 p1) (ny S.length) d 22:=
 ⟨Tu S u t0 t1 p0 p1,rfl,λj hj=>by simp[My.fp,ny] at hj;omega,aU.rq,⟨Tv u t0 t1 p0 p1 (by omega) (by omega),by decide,l0,l1,d2,lF,[],rfl⟩⟩
theorem Fm.XJ (h:Fm S S' m y d n)(hn:n+1<=1000)(e:bE)(hr:i_ m e=none):∃S2 y2,kX [.hd S.length,e.t] S' = .ok .bu S2/\Fm S S2 (ja m e) y2 d (n+1)/\OU S' y S2 (ja m e) y2:=by
 obtain⟨S2,y2,k1,k2,k3⟩:=z7 h.z6 h.D.z hn e hr;rw[h.a] at k1;exact⟨S2,y2,k1,h.adP k2 (h.D.adG e k3 hn),k2⟩
end
theorem O2 (h:k9 m=true):∃l,vS m = .tp l:=by
 unfold vS;rw[h,if_neg (by simp)]
 repeat' split
 all_goals exact⟨_,rfl⟩
theorem Ex (cs:List Int)(hl:cs.length<=100)(u:U)(t0 t1:Str)(l0:p0.length=d)(l1:p1.length=d)(d2:2<=d)(lF:d<=11)(cU:Nat)(hm:cU<=100)(S:Cs):
  ∃es m,G0 [.ls (cs.map .int),u.t,aD t0 t1 p0 p1,.int cU] S = .ok (.ls (es.map bE.t)) S/\eW (cZ u t0 t1 p0 p1) es=some m/\es.length<=cU:=by
 have F0:=Fm.init u t0 t1 l0 l1 d2 lF S;have e4:=zX u t0 t1 p0 p1 (by omega) (by omega) S
 have hr:(-4611686018427387904<=(cU:Int)/\(cU:Int)<4611686018427387904)=True:=eq_true (by omega)
 have lS:(lq S (cZ u t0 t1 p0 p1)).length=S.length+4:=by unfold lq;simp
 have ent:=λ(m:M) (y:Ly) (S':Cs) (n:Nat) (h:dI S' m y) (D:Dr m d n) (k:Int) (k0:0<=k) (k1:k<8000)=>O1 cs hl h D k0 k1 (aD t0 t1 p0 p1)
 generalize Ph:cZ u t0 t1 p0 p1=m0 at *
 generalize aD t0 t1 p0 p1=sT at *
 generalize cs.map Tr.int=X at *
 generalize u.t=uT at *
 unfold G0;generalize hB:cV Ol _=q
 have HM:∃(es:List bE) (m:M) (S':Cs),q [.ls X,uT,sT,.int cU] S = .ok (.hd (S.length+4)) S'/\S'[S.length+4]? = some (.bM (es.map bE.t))/\aU [] S S'/\eW m0 es=some m/\es.length<=cU:=by
  subst hB;simp?[fx,e4,hr,zbo,lS];generalize hZ:fP _ _ _ _ _ _=Z
  obtain⟨τ,S',⟨⟨v,w,rfl⟩,es,m,y,kS,F,nk,hR,hle⟩,rfl⟩:=gk hZ (λi τ S'=>(∃v w,τ=[some (.ls X),some uT,some sT,some (.int (cU:Int)),some (.hd S.length),some (.hd (S.length+4)),v,w])/\∃es m y,S'[S.length+4]? = some (.bM (es.map bE.t))/\Fm S S' m y d (22+i)/\S.length+4∉fp y/\eW m0 es=some m/\es.length<=i) (λ_ _ _ _=>trivial) ⟨⟨_,_,rfl⟩,[],m0,_,by rw[<-lS];exact mP _ _,⟨F0.z6.only (F:=[]) aU.rq (by simp),F0.a,F0.fp,F0.on.trans aU.rq,F0.D⟩,by simp[fp,ny],rfl,zah _⟩ (by
   rintro i t τ S' ht ⟨⟨v,w,rfl⟩,es,m,y,kS,F,nk,hR,hle⟩
   obtain⟨jc,rfl⟩:=oV ht;have k1:=XF F.z6 F.D.z F.D.hn;have ha:=F.z6.a;rw[F.a] at k1 ha;unfold mF at ha;cases hd:k9 m with
   |true =>
    obtain⟨l,el⟩:=O2 hd;rw[el] at k1;refine⟨[some (.ls X),some uT,some sT,some (.int (cU:Int)),some (.hd S.length),some (.hd (S.length+4)),some (.int (0+(i:Int))),w],S',.inl ?_,⟨_,_,rfl⟩,es,m,y,kS,⟨F.z6,F.a,F.fp,F.on,F.D.mono (by omega) (by omega)⟩,nk,hR,by omega⟩
    simp?[fx,ha,k1]
   |false =>
    have er:vS m = .bu:=by unfold vS;rw[hd,if_pos rfl]
    rw[er] at k1;obtain⟨e,k2⟩:=ent m y S' _ F.z6 F.D (11 * (i:Int)) (by omega) (by omega)
    obtain⟨S2,y2,m2,k3,T,z2,em⟩:=adN F.z6 F.D.z (by omega) e
    rw[F.a] at k2 k3;have kS2:=T.on.at kS nk;have nk2:S.length+4∉fp y2:=λq=>(T.fp _ q).elim nk λq=>by have:=aH kS;omega
    have hz:(es.length<sizeLine)=True:=g_ (by omega)
    cases hr:i_ m e with
    |none =>
     rw[hr] at k3 em;rw[if_pos rfl] at em;subst em;have F2:=F.adP T (F.D.adG e z2 (by omega))
     refine⟨[some (.ls X),some uT,some sT,some (.int (cU:Int)),some (.hd S.length),some (.hd (S.length+4)),some (.int (0+(i:Int))),some e.t],S2.set (S.length+4) (.bM ((es++[e]).map bE.t)),.inl ?_,⟨_,_,rfl⟩,es++[e],_,y2,bR (aH kS2),⟨F2.z6.only (F:=[S.length+4]) (aU.set (by simp)) (λj hj q=>by rw[zaw] at q;subst q;exact nk2 hj),F2.a,F2.fp,F2.on.fresh (F':=[S.length+4]) (aU.set (by simp)) (λj hj=>.inr (by rw[zaw] at hj;omega)),F2.D⟩,nk2,by rw[qi hR,if_pos hr],by simp;omega⟩
     rw[zaK,tK,A5];generalize e.t=et at *
     simp?[fx,ha,k1,k2,k3,kS2,hz,zck]
    |some x =>
     rw[hr] at k3 em;rw[if_neg (by simp)] at em
     subst em;have hx:=adO hr;refine⟨[some (.ls X),some uT,some sT,some (.int (cU:Int)),some (.hd S.length),some (.hd (S.length+4)),some (.int (0+(i:Int))),some e.t],S2,.inl ?_,⟨_,_,rfl⟩,es,_,y2,kS2,F.adP T (F.D.mono (by omega) (by omega)),nk2,hR,by omega⟩
     generalize e.t=et at *
     simp?[fx,ha,k1,k2,k3,hx,zcJ])
  rw[oW] at hle F;refine⟨es,m,S',?_,kS,F.on,hR,hle⟩
  simp only[↓bp,bx,simprocAttr]
 obtain⟨es,m,S',e1,e2,e3,e5,e6⟩:=HM;refine⟨es,m,e_ (S1:=S') (t:=.hd (S.length+4)) e1 (Jg e3) ?_,e5,e6⟩
 unfold nK;have hq:cD S' (S.length+4)=some (es.map bE.t):=by unfold cD;rw[e2]
 have:(es.map bE.t).all (Tr.aE S.length)=true:=by
  rw[zaS];intro t ht;obtain⟨e,_,rfl⟩:=zbl.mp ht;exact TZ e _
 simp only[hq,show ¬ S.length+4<S.length by omega,if_false,fR,this,if_true]
theorem T4 (e:fP gF b f l τ S=Z)(I:Nat->En->Cs->Prop)(J:RS->Prop)(hc:∀i τ S,I i τ S->gF S)(h0:I 0 τ S)
  (hs:∀i t τ S,l[i]? = some t->I i τ S->(∃jT S2,(b t τ S).bP f = .nx jT S2/\I (i+1) jT S2)\/((∃n S2,(b t τ S).bP f = .ex n S2/\J (.ex n S2))\/∃u S2,(b t τ S).bP f = .rt u S2/\J (.rt u S2))):(∃oS S',I l.length oS S'/\Z = .nx oS S')\/J Z:=by
 have key:∀(l:List Tr) (n:Nat) (τ:En) (S:Cs),(∀i t τ S,l[i]? = some t->I (n+i) τ S->(∃jT S2,(b t τ S).bP f = .nx jT S2/\I (n+i+1) jT S2)\/((∃n S2,(b t τ S).bP f = .ex n S2/\J (.ex n S2))\/∃u S2,(b t τ S).bP f = .rt u S2/\J (.rt u S2)))->I n τ S->(∃oS S',I (n+l.length) oS S'/\fP gF b f l τ S = .nx oS S')\/J (fP gF b f l τ S):=by
  intro l;induction l with
  |nil=>intro n τ S h h0;exact .inl ⟨τ,S,h0,by unfold fP;rw[if_pos (hc n τ S h0)]⟩
  |cons t r ih =>
   intro n τ S h h0;have e1:fP gF b f (t::r) τ S=(b t τ S).bP λdU S1=>UH (f dU S1) (fP gF b f r):=by
    conv=>lhs;unfold fP
    rw[if_pos (hc n τ S h0)]
   rw[e1];have e2:∀X,(b t τ S).bP f=X->(X = .aG\/∃dU S1,b t τ S = .ok dU S1/\f dU S1=X)\/∃n S1,b t τ S = .ex n S1/\X = .ex n S1:=λX hX=>by
    cases hb:b t τ S with
    |ok dU S1=>rw[hb] at hX;exact .inl (.inr ⟨dU,S1,rfl,hX⟩)
    |ex n S1=>rw[hb] at hX;exact .inr ⟨n,S1,rfl,hX.symm⟩
    |aG=>rw[hb] at hX;exact .inl (.inl hX.symm)
   rcases h 0 t τ S rfl h0 with⟨jT,S2,e,h2⟩|⟨m,S2,e,hJ⟩|⟨u,S2,e,hJ⟩
   ·rcases e2 _ e with (z|⟨dU,S1,eb,ef⟩)|⟨m,S1,_,z⟩
    ·cases z
    ·rw[eb,R.eN,ef,L5]
     rcases ih (n+1) jT S2 (λi u τ S hu hI=>by
      have:=h (i+1) u τ S (by simpa using hu) (by rw[show n+(i+1)=n+1+i by omega];exact hI)
      rw[show n+(i+1)+1=n+1+i+1 by omega] at this
      exact this) h2 with⟨τ3,S3,h3,e3⟩|hJ
     ·exact .inl ⟨τ3,S3,by rw[FW,show n+(r.length+1)=n+1+r.length by omega];exact h3,e3⟩
     ·exact .inr hJ
    ·cases z
   ·rcases e2 _ e with (z|⟨dU,S1,eb,ef⟩)|⟨m',S1,eb,z⟩
    ·cases z
    ·rw[eb,R.eN,ef,ahd];exact .inr hJ
    ·rw[eb,R.Fi,<-z];exact .inr hJ
   ·rcases e2 _ e with (z|⟨dU,S1,eb,ef⟩)|⟨m',S1,eb,z⟩
    ·cases z
    ·rw[eb,R.eN,ef,UJ];exact .inr hJ
    ·cases z
 rcases key l 0 τ S (λi t τ S ht hI=>by rw[zbT] at hI ⊢;exact hs i t τ S ht hI) h0 with⟨oS,S',h,e2⟩|hJ
 ·rw[zbT] at h
  exact .inl ⟨oS,S',h,by rw[<-e,e2]⟩
 ·rw[e] at hJ
  exact .inr hJ
theorem adQ {x0 x1 x2 x3:Tr}:aQ ("rules" : Str) ([("rules",x0),("teams",x1),("kept",x2),("current",x3)]:List (Str×Tr))=some x0:=by kernel_rfl
theorem adR {x0 v:Tr}:bX ("teams" : Str) v ([("rules",x0)]:List (Str×Tr))=([("rules",x0),("teams",v)]:List (Str×Tr)):=by kernel_rfl
theorem adS {x0 x1 x2 x3:Tr}:aQ ("teams" : Str) ([("rules",x0),("teams",x1),("kept",x2),("current",x3)]:List (Str×Tr))=some x1:=by kernel_rfl
theorem adT {x0 x1 v:Tr}:bX ("kept" : Str) v ([("rules",x0),("teams",x1)]:List (Str×Tr))=([("rules",x0),("teams",x1),("kept",v)]:List (Str×Tr)):=by kernel_rfl
theorem adU {x0 x1 x2 x3:Tr}:aQ ("kept" : Str) ([("rules",x0),("teams",x1),("kept",x2),("current",x3)]:List (Str×Tr))=some x2:=by kernel_rfl
theorem adV {x0 x1 x2 x3 v:Tr}:bX ("kept" : Str) v ([("rules",x0),("teams",x1),("kept",x2),("current",x3)]:List (Str×Tr))=([("rules",x0),("teams",x1),("kept",v),("current",x3)]:List (Str×Tr)):=by kernel_rfl
theorem adW {x0 x1 x2 v:Tr}:bX ("current" : Str) v ([("rules",x0),("teams",x1),("kept",x2)]:List (Str×Tr))=([("rules",x0),("teams",x1),("kept",x2),("current",v)]:List (Str×Tr)):=by kernel_rfl
theorem adX {x0 x1 x2 x3:Tr}:aQ ("current" : Str) ([("rules",x0),("teams",x1),("kept",x2),("current",x3)]:List (Str×Tr))=some x3:=by kernel_rfl
theorem adY {x0 x1 x2 x3 v:Tr}:bX ("current" : Str) v ([("rules",x0),("teams",x1),("kept",x2),("current",x3)]:List (Str×Tr))=([("rules",x0),("teams",x1),("kept",x2),("current",v)]:List (Str×Tr)):=by kernel_rfl
theorem ai4 {x0 x1 x2 x3:Tr}:aQ ("tell" : Str) ([("rules",x0),("teams",x1),("kept",x2),("current",x3)]:List (Str×Tr))=none:=by kernel_rfl
theorem ai5 {x0 x1 x2 x3:Tr}:aQ ("entries" : Str) ([("rules",x0),("teams",x1),("kept",x2),("current",x3)]:List (Str×Tr))=none:=by kernel_rfl
theorem ai6 {x0 x1 x2 x3:Tr}:aQ ("match" : Str) ([("rules",x0),("teams",x1),("kept",x2),("current",x3)]:List (Str×Tr))=none:=by kernel_rfl
theorem ai7 {x0 x1 x2 x3:Tr}:aQ ("need_number" : Str) ([("rules",x0),("teams",x1),("kept",x2),("current",x3)]:List (Str×Tr))=none:=by kernel_rfl
theorem ai8 {x0 x1 x2 x3:Tr}:aQ ("retell" : Str) ([("rules",x0),("teams",x1),("kept",x2),("current",x3)]:List (Str×Tr))=none:=by kernel_rfl
theorem ai9 {x0 x1 x2 x3:Tr}:aQ ("put_right" : Str) ([("rules",x0),("teams",x1),("kept",x2),("current",x3)]:List (Str×Tr))=none:=by kernel_rfl
theorem aja {x0 x1 x2 x3:Tr}:aQ ("put_in" : Str) ([("rules",x0),("teams",x1),("kept",x2),("current",x3)]:List (Str×Tr))=none:=by kernel_rfl
theorem ajb {x0 x1 x2 x3:Tr}:aQ ("take_out" : Str) ([("rules",x0),("teams",x1),("kept",x2),("current",x3)]:List (Str×Tr))=none:=by kernel_rfl
theorem T5:(("Book" : Str)∈(["Book"]:List Str))=True:=eq_true (zaw.mpr rfl)
open And in
noncomputable def n_:=intro @adQ<|intro @adR<|intro @adS<|intro @adT<|intro @adU<|intro @adV<|intro @adW<|intro @adX<|intro @adY<|intro @T5<|intro @ai4<|intro @ai5<|intro @ai6<|intro @ai7<|intro @ai8<|intro @ai9<|intro @aja<|@ajb
noncomputable def Cv (u:U)(sT:Tr)(kc:Nat)(cu:Tr):List (Str×Tr):=[("rules",u.t),("teams",sT),("kept",.hd kc),("current",cu)]
structure iI (S:Cs) (b kc:Nat) (u:U) (sT:Tr) (es:List bE) (cu:Tr):Prop where
 hb:S[b]? = some (.d_ "Book" (Cv u sT kc cu))
 hk:S[kc]? = some (.bM (es.map bE.t))
 ne:b≠kc
theorem iI.only (h:iI S b kc u sT es cu)(o:aU F S S')(hb:b∉F)(hk:kc∉F):iI S' b kc u sT es cu:=⟨o.at h.hb hb,o.at h.hk hk,h.ne⟩
theorem vt (l:List Tr)(i:Nat):pP l (some (i:Int)) none=l.drop i:=by
 unfold pP;rw[HT.Av,HT.yE];by_cases h:i<=l.length
 ·rw[zcS h,zaN (by simp)]
 ·rw[zcK (by omega),zbg (zah _),zbg (by omega)]
  simp
theorem qj:∀{es:List bE} {m m':M} (i:Nat),eW m es=some m'->∃m2,eW m (es.take i)=some m2/\∀e,es[i]? = some e->i_ m2 e=none
 |[],m,m',i,h=>⟨m,by simp[eW],λe he=>by simp at he⟩
 |a::r,m,m',0,h=>⟨m,rfl,λe he=>by
  cases he;unfold eW at h;split at h
  ·assumption
  ·cases h⟩
 |a::r,m,m',i+1,h=>by
  unfold eW at h;split at h
  ·rename_i q
   obtain⟨m2,k1,k2⟩:=qj i h;refine⟨m2,?_,λe he=>k2 e (by simpa using he)⟩
   rw[List.take_succ_cons];unfold eW;rw[if_pos q];exact k1
  ·cases h
theorem m8 {es:List bE}{m0 m:M}{e:bE}{i:Nat}(h:eW m0 (es.take i)=some m)(he:es[i]? = some e):eW m0 (es.take (i+1))=if i_ m e=none then some (ja m e) else none:=by
 have:es.take (i+1)=es.take i++[e]:=by rw[zdc,he];rfl
 rw[this,qi h]
theorem yu:∀{es:List bE} {m:M} {i:Nat},eW m (es.take i)=none->eW m es=none
 |[],m,i,h=>by simpa using h
 |a::r,m,0,h=>by cases h
 |a::r,m,i+1,h=>by
  rw[List.take_succ_cons] at h;unfold eW at h ⊢
  split at h
  ·rename_i q
   rw[if_pos q];exact yu h
  ·rename_i q
   rw[if_neg q]
noncomputable def Bad (m0:M)(fs:List bE)(i:Nat)(w:Str):Prop:=∃m e,eW m0 (fs.take i)=some m/\fs[i]? = some e/\i_ m e=some w
theorem Bad.none {m0:M}{fs:List bE}{i:Nat}{w:Str}(h:Bad m0 fs i w):eW m0 fs=none:=by
 obtain⟨m,e,h1,h2,h3⟩:=h;exact yu (i:=i+1) (by rw[m8 h1 h2,h3];rfl)
section
variable {S:Cs}{b kc d:Nat}{u:U}{t0 t1:Str}{p0 p1:List Str}{es:List bE}{cu:Tr}
theorem T6 (u:U)(t0 t1:Str)(l0:p0.length=d)(l1:p1.length=d)(d2:2<=d)(lF:d<=11)(S:Cs):∃S' y,Om [.hd S.length,u.t,aD t0 t1 p0 p1] (S++[.d_ "Book" []]) = .ok .bu S'/\iI S' S.length (S.length+1) u (aD t0 t1 p0 p1) [] (.hd y.a)/\dI S' (cZ u t0 t1 p0 p1) y/\aU [] S S'/\(∀j∈fp y,S.length+2<=j):=by
 obtain⟨Sa,hSa⟩:∃Sa:Cs,Sa=S++[Ce.d_ "Book" [("rules",u.t),("teams",aD t0 t1 p0 p1),("kept",.hd (S.length+1))],Ce.bM []]:=⟨_,rfl⟩
 have la:Sa.length=S.length+2:=by rw[hSa];simp
 have e4:=zX u t0 t1 p0 p1 (by omega) (by omega) Sa
 have F:=Fm.init u t0 t1 l0 l1 d2 lF Sa;have hb:(lq Sa (cZ u t0 t1 p0 p1))[S.length]? = some (Ce.d_ "Book" [("rules",u.t),("teams",aD t0 t1 p0 p1),("kept",.hd (S.length+1))]):=F.on.at (by rw[hSa];exact G8) (by simp)
 have hk:(lq Sa (cZ u t0 t1 p0 p1))[S.length+1]? = some (Ce.bM []):=F.on.at (by rw[hSa];exact ga1) (by simp)
 have hl0:(p0.length<=sizeLine)=True:=bA (by omega)
 have QS:(p1.length<=sizeLine)=True:=bA (by omega)
 rw[la] at e4;generalize hI:lq Sa (cZ u t0 t1 p0 p1)=SI at *
 refine⟨SI.set S.length (.d_ "Book" (Cv u (aD t0 t1 p0 p1) (S.length+1) (.hd (ny (S.length+2)).a))),ny (S.length+2),?_,⟨bR (aH hb),by rw[cR (by omega)];exact hk,by omega⟩,?_,?_,?_⟩
 ·unfold Om Cv
  unfold aD at *
  generalize u.t=ut at *
  rw[hSa,zbb,zaL,zaL,CM] at e4;simp?[fx,n_,G8,sa0,zbb,zac,hl0,QS,e4,hb,ny]
 ·have:=F.z6
  rw[la] at this;exact this.only (F:=[S.length]) (aU.set (by simp)) λj hj q=>by
   have:=F.fp j (by rw[la];exact hj)
   rw[zaw] at q;omega
 ·have o1:aU [] S Sa:=by rw[hSa];exact aU.rq
  exact (o1.trans F.on).fresh (F':=[S.length]) (aU.set (by simp)) λj hj=>.inr (by rw[zaw] at hj;omega)
 ·intro j hj
  have:=F.fp j (by rw[la];exact hj)
  omega
theorem T7 (B:iI S b kc u (aD t0 t1 p0 p1) es (.hd y.a))(h:dI S m y)(D:Dr m d n)(hn:n+1<=1000)(nb:b∉fp y)(nk:kc∉fp y)(hr:i_ m e=none)(hl:es.length<=500):
  ∃S' y',SO [.hd b,e.t] S = .ok .bu S'/\iI S' b kc u (aD t0 t1 p0 p1) (es++[e]) (.hd y'.a)/\dI S' (ja m e) y'/\Dr (ja m e) d (n+1)/\b∉fp y'/\kc∉fp y'/\aU (kc::fp y) S S'/\∀j∈fp y',j∈fp y\/S.length<=j:=by
 obtain⟨S2,y2,k1,T,z2⟩:=z7 h D.z hn e hr;have nb2:b∉fp y2:=λq=>(T.fp _ q).elim nb λq=>by have:=aH B.hb;omega
 have nk2:kc∉fp y2:=λq=>(T.fp _ q).elim nk λq=>by have:=aH B.hk;omega
 have B2:=B.only T.on nb nk;have hb:=B.hb;have hb2:=B2.hb;have hk2:=B2.hk;have ha:=h.a;have hz:(es.length<sizeLine)=True:=g_ (by omega)
 refine⟨S2.set kc (.bM ((es++[e]).map bE.t)),y2,?_,⟨by rw[cR B.ne.symm,T.a];exact hb2,bR (aH hk2),B.ne⟩,T.z6.only (F:=[kc]) (aU.set (by simp)) (λj hj q=>by rw[zaw] at q;subst q;exact nk2 hj),D.adG e z2 hn,nb2,nk2,(T.on.mono λj hj=>by simp[hj]).trans (aU.set (by simp)),T.fp⟩
 unfold SO;unfold Cv at hb hb2;unfold mF at ha;rw[zaK,tK,A5];generalize aD t0 t1 p0 p1=sT at *
 generalize u.t=ut at *
 generalize e.t=et at *
 simp?[fx,n_,hb,ha,k1,hb2,hk2,hz]
theorem Ho (B:iI S b kc u (aD t0 t1 p0 p1) es cu):Ov [.hd b] S = .ok (.ls (es.map bE.t)) S:=by
 have hb:=B.hb;have hk:=B.hk;unfold Cv at hb;unfold Ov;generalize aD t0 t1 p0 p1=sT at *
 generalize u.t=ut at *
 simp?[fx,n_,hb,hk]
theorem Cw {m:M}(B:iI S b kc u (aD t0 t1 p0 p1) es cu)(l0:p0.length=d)(l1:p1.length=d)(d2:2<=d)(lF:d<=11)(hR:eW (cZ u t0 t1 p0 p1) es=some m)(hl:es.length<=500):
  ∃S' y,Ou [.hd b] S = .ok (.hd S.length) S'/\Fm S S' m y d (22+es.length):=by
 have F0:=Fm.init u t0 t1 l0 l1 d2 lF S;have e4:=zX u t0 t1 p0 p1 (by omega) (by omega) S
 have B0:=B.only F0.on (by simp) (by simp)
 have hb:=B.hb;have Zq:=B0.hb;have Ae:=B0.hk;unfold Ou;unfold Cv at hb Zq;generalize hI:lq S (cZ u t0 t1 p0 p1)=SI at *
 generalize Ph:cZ u t0 t1 p0 p1=m0 at *
 generalize aD t0 t1 p0 p1=sT at *
 generalize hut:u.t=ut at *
 simp?[fx,n_,hb,e4,Zq,Ae];generalize hZ:fP _ _ _ _ _ _=Z
 obtain⟨τ,S',⟨⟨v,rfl⟩,m',y,F,vU⟩,rfl⟩:=gk hZ (λi τ S'=>(∃v,τ=[some (.hd b),some (.hd S.length),v])/\∃m y,Fm S S' m y d (22+i)/\eW m0 (es.take i)=some m) (λi τ S' ⟨_,m,y,F,_⟩=>by
  show cD S' kc=_
  unfold cD;rw[F.on.at B.hk (by simp)]) ⟨⟨_,rfl⟩,m0,_,F0,by rw[zdd];rfl⟩ (by
  rintro i t τ S' ht ⟨⟨v,rfl⟩,m',y,F,vU⟩
  rw[zaq] at ht;cases he:es[i]? with
  |none=>rw[he] at ht;cases ht
  |some e =>
   rw[he] at ht;cases ht;have jc:=(zab.mp he).1
   obtain⟨m2,q1,q2⟩:=qj i hR;rw[vU] at q1;cases q1;have hr:=q2 e he;obtain⟨S2,y2,k1,F2,_⟩:=F.XJ (by omega) e hr
   have ha:=F.z6.a;rw[F.a] at ha;unfold mF at ha;refine⟨[some (.hd b),some (.hd S.length),some e.t],S2,.inl ?_,⟨_,rfl⟩,_,y2,F2,by rw[m8 vU he,if_pos hr]⟩
   generalize e.t=et at *
   simp?[fx,n_,ha,k1])
 rw[zac] at F vU;rw[zaH,hR] at vU;cases vU;exact⟨S',y,by simp only[↓bp,bx,simprocAttr],F⟩
theorem O3 {e:Nat}{fs:List bE}(B:iI S b kc u (aD t0 t1 p0 p1) es cu)(he:S[e]? = some (.bM (fs.map bE.t)))(ne:b≠e)(l0:p0.length=d)(l1:p1.length=d)(d2:2<=d)(lF:d<=11)(hl:fs.length<=500):
  (∃m S' y,eW (cZ u t0 t1 p0 p1) fs=some m/\Cd [.hd b,.hd e] S = .ok .bu S'/\iI S' b e u (aD t0 t1 p0 p1) fs (.hd y.a)/\dI S' m y/\Dr m d (22+fs.length)/\(∀j∈fp y,S.length<=j)/\aU [b] S S') \/
  (∃S' i w,Bad (cZ u t0 t1 p0 p1) fs i w/\Cd [.hd b,.hd e] S = .ok (.tp [.int (i:Int),.str w]) S'/\aU [] S S'):=by
 have F0:=Fm.init u t0 t1 l0 l1 d2 lF S;have e4:=zX u t0 t1 p0 p1 (by omega) (by omega) S
 have B0:=B.only F0.on (by simp) (by simp)
 have hb:=B.hb;have Zq:=B0.hb;have he0:=F0.on.at he (by simp)
 unfold Cd;unfold Cv at hb Zq;have lb:=aH B.hb;generalize hI:lq S (cZ u t0 t1 p0 p1)=SI at *
 generalize Ph:cZ u t0 t1 p0 p1=m0 at *
 generalize hsT:aD t0 t1 p0 p1=sT at *
 generalize hut:u.t=ut at *
 simp?[fx,n_,hb,e4,he0];generalize hZ:fP _ _ _ _ _ _=Z
 have key:=T4 hZ (λi τ S'=>(∃v w x,τ=[some (.hd b),some (.hd e),some (.hd S.length),v,w,x])/\∃m y,Fm S S' m y d (22+i)/\eW m0 (fs.take i)=some m) (λz=>∃S' i w,Bad m0 fs i w/\z = .rt (.tp [.int ((i:Nat):Int),.str w]) S'/\aU [] S S') (λi τ S' ⟨_,m,y,F,_⟩=>by
  show cD S' e=_
  unfold cD;rw[F.on.at he (by simp)]) ⟨⟨_,_,_,rfl⟩,m0,_,F0,by rw[zdd];rfl⟩ (by
  rintro i t τ S' ht ⟨⟨v,w,x,rfl⟩,m',y,F,vU⟩
  obtain⟨w',hw,rfl⟩:=tw ht;rw[zaq] at hw;obtain⟨e',IX,rfl⟩:∃e',fs[i]? = some e'/\w'=e'.t:=by
   cases hx:fs[i]? with
   |none=>rw[hx] at hw;cases hw
   |some x=>rw[hx] at hw;cases hw;exact⟨x,rfl,rfl⟩
  have jc:=(zab.mp IX).1
  have ha:=F.z6.a;rw[F.a] at ha;unfold mF at ha;cases hr:i_ m' e' with
  |none =>
   obtain⟨S2,y2,k1,F2,_⟩:=F.XJ (by omega) e' hr
   refine .inl ⟨[some (.hd b),some (.hd e),some (.hd S.length),some (.int (((0:Nat):Int)+(i:Int))),some e'.t,x],S2,?_,⟨_,_,_,rfl⟩,_,y2,F2,by rw[m8 vU IX,if_pos hr]⟩
   generalize e'.t=et at *
   simp?[fx,n_,ha,k1]
  |some wd =>
   obtain⟨S0,⟨G,e0⟩,k1⟩:=Hf F.z6 F.D.z (by omega) e' wd hr
   rw[F.a] at k1;refine .inr (.inr ⟨.tp [.int (i:Int),.str wd],S0++[.sL "NotLet" [("rule",.str wd),("number",.int 0)]],?_,_,i,wd,⟨m',e',vU,IX,hr⟩,rfl,?_⟩)
   rotate_left
   ·have on:aU [] S' (S0++[.sL "NotLet" [("rule",.str wd),("number",.int 0)]]):=by
     rw[e0,zbb];exact aU.rq
    exact F.on.trans on
   ·generalize e'.t=et at *
    simp?[fx,n_,ha,k1,G8,zaw,XI])
 rcases key with⟨τ,S',⟨⟨v,w,x,rfl⟩,m',y,F,vU⟩,rfl⟩|⟨S',i,w,k1,rfl,k2⟩
 ·rw[wN,zac] at F vU
  rw[zaH] at vU;have hb1:=F.on.at B.hb (by simp)
  have he1:=F.on.at he (by simp)
  have QS:=aH hb1;have ns:∀j∈fp y,j∉[b]:=λj hj q=>by
   have:=F.fp j hj
   rw[zaw] at q;omega
  refine .inl ⟨m',S'.set b (.d_ "Book" (Cv u sT e (.hd y.a))),y,vU,?_,⟨bR QS,by rw[cR ne];exact he1,ne⟩,F.z6.only (F:=[b]) (aU.set (by simp)) ns,F.D,F.fp,(F.on.mono (by simp)).trans (aU.set (by simp))⟩
  rw[F.a];unfold Cv at hb1 ⊢
  rw[hut] at *
  simp?[fx,n_,hb1,QS,bR,d8]
 ·refine .inr ⟨S',i,w,k1,?_,k2⟩
  simp only[↓bp,bx,simprocAttr]
end
noncomputable def Pu (S:Cs)(b:Nat)(u:U)(t0 t1:Str)(p0 p1:List Str)(d:Nat)(fs:List bE)(X:R Tr):Prop:=
 (∃m S' kc y,eW (cZ u t0 t1 p0 p1) fs=some m/\X = .ok .bu S'/\iI S' b kc u (aD t0 t1 p0 p1) fs (.hd y.a)/\S.length<=kc/\dI S' m y/\Dr m d (22+fs.length)/\(∀j∈fp y,kc<j)/\aU [b] S S') \/
 (∃S' i w,Bad (cZ u t0 t1 p0 p1) fs i w/\X = .ok (.tp [.int ((i:Nat):Int),.str w]) S'/\aU [] S S')
section
variable {S:Cs}{b kc d:Nat}{u:U}{t0 t1:Str}{p0 p1:List Str}{es fs:List bE}{cu:Tr}
theorem O4 (B:iI S b kc u (aD t0 t1 p0 p1) es cu)(l0:p0.length=d)(l1:p1.length=d)(d2:2<=d)(lF:d<=11)(hl:fs.length<=500):Pu S b u t0 t1 p0 p1 d fs (Cd [.hd b,.hd S.length] (S++[.bM (fs.map bE.t)])):=by
 have lb:=aH B.hb;have o1:aU [] S (S++[.bM (fs.map bE.t)]):=aU.rq
 rcases O3 (e:=S.length) (fs:=fs) (B.only o1 (by simp) (by simp)) (mP _ _) (by omega) l0 l1 d2 lF hl with⟨m,S',y,k1,k2,k3,k4,k5,k6,k7⟩|⟨S',i,w,k1,k2,k3⟩
 ·exact .inl ⟨m,S',S.length,y,k1,k2,k3,zah _,k4,k5,λj hj=>by have:=k6 j hj;simp at this;omega,(o1.mono (by simp)).trans k7⟩
 ·exact .inr ⟨S',i,w,k1,k2,o1.trans k3⟩
theorem Ey (h:0<=n/\n<c)(t:Tr)(S:Cs):IS [t,.int n,.int c] S = .ok .bu S:=by
 unfold IS;have h1:(0<=n)=True:=eq_true h.1
 have h2:(n<c)=True:=eq_true h.2
 simp?[UC,sW,h1,h2]
theorem Hq (B:iI S b kc u (aD t0 t1 p0 p1) es cu)(l0:p0.length=d)(l1:p1.length=d)(d2:2<=d)(lF:d<=11)(hl:es.length<=400)(ha:a<es.length)(e:bE):Pu S b u t0 t1 p0 p1 d (es.take a++e::es.drop (a+1)) (IT [.hd b,.int a,e.t] S):=by
 have P:=O4 (fs:=es.take a++e::es.drop (a+1)) B l0 l1 d2 lF (by simp;omega)
 have hb:=B.hb;have hk:=B.hk;have c1:=zP (es.map bE.t) a
 have c2:=vt (es.map bE.t) (a+1)
 have n1:=λS=>Ey (n:=(a:Int)) (c:=(es.length:Int)) ⟨by omega,by omega⟩ (.hd b) S
 rw[show ((a+1:Nat):Int)=(a:Int)+1 by omega] at c2
 have z1:(es.length<=sizeLine)=True:=bA (by omega)
 have z2:(((es.map bE.t).take a).length+1<=sizeLine)=True:=bA (by simp;omega)
 have z3:(((es.map bE.t).take a).length+1+((es.map bE.t).drop (a+1)).length<=sizeLine)=True:=bA (by simp;omega)
 have ef:(es.take a++e::es.drop (a+1)).map bE.t=(es.map bE.t).take a++e.t::(es.map bE.t).drop (a+1):=by simp
 unfold Pu at P ⊢
 rw[ef] at P;have lm:(es.map bE.t).length=es.length:=by simp
 unfold Cv at hb;generalize es.map bE.t=L at *
 rcases P with⟨m,S',kc',y,k1,k2,k3⟩|⟨S',i,w,k1,k2,k3⟩
 ·refine .inl ⟨m,S',kc',y,k1,?_,k3⟩
  clear k3
  unfold IT;generalize aD t0 t1 p0 p1=sT at *
  generalize u.t=ut at *
  generalize e.t=et at *
  simp?[fx,n_,hb,hk,n1,c1,c2,z1,z2,z3,lm,k2,l6,qA,zbb,zaL,CM,zaf,FW,zaG]
 ·refine .inr ⟨S',i,w,k1,?_,k3⟩
  unfold IT;generalize aD t0 t1 p0 p1=sT at *
  generalize u.t=ut at *
  generalize e.t=et at *
  simp?[fx,n_,hb,hk,n1,c1,c2,z1,z2,z3,lm,k2,l6,qA,zbb,zaL,CM,zaf,FW,zaG]
theorem ajf (B:iI S b kc u (aD t0 t1 p0 p1) es cu)(l0:p0.length=d)(l1:p1.length=d)(d2:2<=d)(lF:d<=11)(hl:es.length<=400)(ha:a<=es.length)(e:bE):Pu S b u t0 t1 p0 p1 d (es.take a++e::es.drop a) (IU [.hd b,.int a,e.t] S):=by
 have P:=O4 (fs:=es.take a++e::es.drop a) B l0 l1 d2 lF (by simp;omega)
 have hb:=B.hb;have hk:=B.hk;have c1:=zP (es.map bE.t) a
 have c2:=vt (es.map bE.t) a
 have n1:=λS=>Ey (n:=(a:Int)) (c:=(es.length:Int)+1) ⟨by omega,by omega⟩ (.hd b) S
 have z1:(es.length<=sizeLine)=True:=bA (by omega)
 have z2:(((es.map bE.t).take a).length+1<=sizeLine)=True:=bA (by simp;omega)
 have z3:(((es.map bE.t).take a).length+1+((es.map bE.t).drop a).length<=sizeLine)=True:=bA (by simp;omega)
 have ef:(es.take a++e::es.drop a).map bE.t=(es.map bE.t).take a++e.t::(es.map bE.t).drop a:=by simp
 unfold Pu at P ⊢
 rw[ef] at P;have lm:(es.map bE.t).length=es.length:=by simp
 unfold Cv at hb;generalize es.map bE.t=L at *
 rcases P with⟨m,S',kc',y,k1,k2,k3⟩|⟨S',i,w,k1,k2,k3⟩
 ·refine .inl ⟨m,S',kc',y,k1,?_,k3⟩
  clear k3
  unfold IU;generalize aD t0 t1 p0 p1=sT at *
  generalize u.t=ut at *
  generalize e.t=et at *
  simp?[fx,n_,hb,hk,n1,c1,c2,z1,z2,z3,lm,k2,l6,qA,zbb,zaL,CM,zaf,FW,zaG]
 ·refine .inr ⟨S',i,w,k1,?_,k3⟩
  unfold IU;generalize aD t0 t1 p0 p1=sT at *
  generalize u.t=ut at *
  generalize e.t=et at *
  simp?[fx,n_,hb,hk,n1,c1,c2,z1,z2,z3,lm,k2,l6,qA,zbb,zaL,CM,zaf,FW,zaG]
theorem XM (B:iI S b kc u (aD t0 t1 p0 p1) es cu)(l0:p0.length=d)(l1:p1.length=d)(d2:2<=d)(lF:d<=11)(hl:es.length<=400)(ha:a<es.length):Pu S b u t0 t1 p0 p1 d (es.take a++es.drop (a+1)) (IV [.hd b,.int a] S):=by
 have P:=O4 (fs:=es.take a++es.drop (a+1)) B l0 l1 d2 lF (by simp;omega)
 have hb:=B.hb;have hk:=B.hk;have c1:=zP (es.map bE.t) a
 have c2:=vt (es.map bE.t) (a+1)
 have n1:=λS=>Ey (n:=(a:Int)) (c:=(es.length:Int)) ⟨by omega,by omega⟩ (.hd b) S
 rw[show ((a+1:Nat):Int)=(a:Int)+1 by omega] at c2
 have z1:(es.length<=sizeLine)=True:=bA (by omega)
 have z3:(((es.map bE.t).take a).length+((es.map bE.t).drop (a+1)).length<=sizeLine)=True:=bA (by simp;omega)
 have ef:(es.take a++es.drop (a+1)).map bE.t=(es.map bE.t).take a++(es.map bE.t).drop (a+1):=by simp
 unfold Pu at P ⊢
 rw[ef] at P;have lm:(es.map bE.t).length=es.length:=by simp
 unfold Cv at hb;generalize es.map bE.t=L at *
 rcases P with⟨m,S',kc',y,k1,k2,k3⟩|⟨S',i,w,k1,k2,k3⟩
 ·refine .inl ⟨m,S',kc',y,k1,?_,k3⟩
  clear k3
  unfold IV;generalize aD t0 t1 p0 p1=sT at *
  generalize u.t=ut at *
  simp?[fx,n_,hb,hk,n1,c1,c2,z1,z3,lm,k2,l6,qA]
 ·refine .inr ⟨S',i,w,k1,?_,k3⟩
  unfold IV;generalize aD t0 t1 p0 p1=sT at *
  generalize u.t=ut at *
  simp?[fx,n_,hb,hk,n1,c1,c2,z1,z3,lm,k2,l6,qA]
end
theorem O5 (cs:List Int)(j:Nat)(v:Int):(cs.map Tr.int).set j (.int v)=(cs.set j v).map .int:=by rw[List.map_set]
theorem adZ (ns:List Int)(JK:ns.length<=63)(S:Cs):∃cs:List Int,Gm [.kl (ns.map .int),.int 40] S = .ok (.ls (cs.map .int)) S/\cs.length<=40:=by
 unfold Gm;generalize hB:cV Nd _=q
 have HM:∃cs:List Int,q [.kl (ns.map .int),.int 40] S = .ok (.hd S.length) (S++[.bM (cs.map .int)])/\cs.length<=40:=by
  subst hB;simp only[↓bp,bx,simprocAttr];generalize hZ:fP _ _ _ _ _ _=Z
  obtain⟨τ,S',⟨⟨v,w,rfl⟩,cs,rfl,h1,h2,h3⟩,rfl⟩:=gk hZ (λi τ S'=>(∃v w,τ=[some (.kl (ns.map .int)),some (.int 40),some (.hd S.length),v,w])/\∃cs:List Int,S'=S++[.bM (cs.map .int)]/\cs.length<=40/\(i<40->cs.length=i)/\(40<=i->cs.length=40)) (λ_ _ _ _=>trivial) ⟨⟨_,_,rfl⟩,[],rfl,by simp,λ_=>rfl,λh=>by omega⟩ (by
   rintro i t τ S' ht ⟨⟨v,w,rfl⟩,cs,rfl,h1,h2,h3⟩
   obtain⟨w',hw,rfl⟩:=tw ht;rw[zaq] at hw;obtain⟨n,hn,rfl⟩:∃n,ns[i]? = some n/\w' = .int n:=by
    cases hx:ns[i]? with
    |none=>rw[hx] at hw;cases hw
    |some x=>rw[hx] at hw;cases hw;exact⟨x,rfl,rfl⟩
   have hz:(cs.length<sizeLine)=True:=g_ (by omega)
   by_cases q:i<40
   ·have q':((i:Int)<40)=True:=eq_true (by omega)
    refine⟨[some (.kl (ns.map .int)),some (.int 40),some (.hd S.length),some (.int (((0:Nat):Int)+(i:Int))),some (.int n)],S++[.bM ((cs++[n]).map .int)],.inl ?_,⟨_,_,rfl⟩,cs++[n],rfl,by rw[zaf,h2 q];simp;omega,λ_=>by simp[h2 q],λh=>by rw[zaf,h2 q];simp;omega⟩
    rw[zaK,tK,A5];simp?[q',sW,hz,G8,sa0]
   ·have q':¬ ((i:Int)<40):=by omega
    have lc:=h3 (by omega)
    obtain⟨x,_,ex⟩:=zf (l:=cs) (n:=(i:Int)) (m:=40) (by omega) (by decide)
    have et:ig (cs.map Tr.int) ((i:Int) % 40)=some (.int x):=by rw[Cu,ex];rfl
    have ei:Aa cs.length ((i:Int) % 40)=some (i % 40):=by
     unfold Aa;rw[lc];rw[if_pos (by omega),if_pos (by omega)]
     congr 1
    refine⟨[some (.kl (ns.map .int)),some (.int 40),some (.hd S.length),some (.int (((0:Nat):Int)+(i:Int))),some (.int n)],S++[.bM ((cs.set (i % 40) (x * 31+n)).map .int)],.inl ?_,⟨_,_,rfl⟩,cs.set (i % 40) (x * 31+n),rfl,by simp[lc],λh=>by omega,λ_=>by simp[lc]⟩
    rw[<-O5];simp?[q',sW,et,ei,G8,sa0])
  exact⟨cs,by simp only[↓bp,bx,simprocAttr],h1⟩
 obtain⟨cs,e1,e2⟩:=HM;refine⟨cs,e_ (S1:=S++[.bM (cs.map .int)]) (t:=.hd S.length) e1 (wQ _ _) ?_,e2⟩
 unfold nK;have hq:cD (S++[.bM (cs.map .int)]) S.length=some (cs.map .int):=by unfold cD;rw[G8]
 have:(cs.map Tr.int).all (Tr.aE S.length)=true:=by
  rw[zaS];intro t ht;obtain⟨e,_,rfl⟩:=zbl.mp ht;rfl
 simp only[hq,zaP,if_false,fR,this,if_true]
theorem T8 (cs:List Int)(hl:cs.length<=100)(k0:0<=k)(k1:k<9000)(t0 t1:Str)(l0:p0.length=d)(l1:p1.length=d)(d2:2<=d)(lF:d<=11)(e:bE)(S:Cs):∃e':bE,G2 [.ls (cs.map .int),.int k,aD t0 t1 p0 p1,e.t] S = .ok e'.t S:=by
 have W:=λ(j cU:Int) (k0:0<=j) (k1:j<10000) (h0:0<cU) (h1:cU<1000000)=>And.intro (yt cs j h0) (qh cs hl k0 k1 h0 h1 S)
 obtain⟨⟨a1,b1⟩,e1⟩:=W k 3 (by omega) (by omega) (by decide) (by decide)
 obtain⟨⟨a2,b2⟩,e2⟩:=W k ((p0++p1).length:Int) (by omega) (by omega) (by rw[zaf];omega) (by rw[zaf];omega)
 obtain⟨x,_,f⟩:=gP (l:=p0++p1) a2 b2
 have z3:(p0.length+p1.length<=sizeLine)=True:=bA (by omega)
 rw[zaK] at f;rw[zaf] at e2 f;generalize cs.map Tr.int=X at *
 generalize dv cs k 3=v at *
 generalize dv cs k ((p0.length+p1.length:Nat):Int)=v2 at *
 unfold G2 aD;cases e with
 |nU b =>
  refine⟨.nU ⟨b.k,(b.r+1+v) % 7,false,"","",""⟩,?_⟩
  simp?[fx,bE.t,B.t,e1]
 |qf n=>exact⟨.qf x,by simp?[fx,bE.t,e2,f,z3,S8,bJ,zau,zax,zay,zaf,zac]⟩
 |nV n=>exact⟨.nV x,by simp?[fx,bE.t,e2,f,z3,S8,bJ,zau,zax,zay,zaf,zac]⟩
 |nW n=>exact⟨.nW x,by simp?[fx,bE.t,e2,f,z3,S8,bJ,zau,zax,zay,zaf,zac]⟩
 |cS a b c d=>exact⟨.cS a b c d,by simp?[fx,bE.t,z3,S8,bJ,zau,zax,zay,zaf,zac]⟩
 |swap a b=>exact⟨.swap a b,by simp?[fx,bE.t,z3,S8,bJ,zau,zax,zay,zaf,zac]⟩
 |eV=>exact⟨.eV,by simp?[fx,bE.t,z3,S8,bJ,zau,zax,zay,zaf,zac]⟩
 |gB=>exact⟨.gB,by simp?[fx,bE.t,z3,S8,bJ,zau,zax,zay,zaf,zac]⟩
 |jS=>exact⟨.jS,by simp?[fx,bE.t,z3,S8,bJ,zau,zax,zay,zaf,zac]⟩
noncomputable def Bk1 (w a:Nat)(e:bE)(K' K:List bE):Prop:=(w=0/\a<K'.length/\K=K'.take a++e::K'.drop (a+1))\/(w=1/\a<K'.length/\K=K'.take a++K'.drop (a+1))\/(w=2/\a<=K'.length/\K=K'.take a++e::K'.drop a)
inductive CN (m0:M) (K0:List bE):List (Nat×Nat×bE)->List bE->Prop
 |nil:CN m0 K0 [] K0
 |snoc {us:List (Nat×Nat×bE)} {K K':List bE} {w a:Nat} {e:bE} {m:M}:CN m0 K0 us K->eW m0 K=some m->Bk1 w a e K' K->CN m0 K0 (us++[(w,a,e)]) K'
theorem CN.inv (h:CN m0 K0 l K'):(l=[]/\K'=K0)\/∃us K w a e m,l=us++[(w,a,e)]/\CN m0 K0 us K/\eW m0 K=some m/\Bk1 w a e K' K:=by
 cases h with
 |nil=>exact .inl ⟨rfl,rfl⟩
 |snoc h1 h2 h3=>exact .inr ⟨_,_,_,_,_,_,rfl,h1,h2,h3⟩
theorem vz (h:a<es.length):∃e,es[a]? = some e/\es=es.take a++e::es.drop (a+1):=by
 refine⟨es[a],zae h,?_⟩
 rw[<-zcu h,zec]
theorem O6 (h:a<es.length)(he:es[a]? = some e):Bk1 0 a e (es.take a++o::es.drop (a+1)) es:=by
 obtain⟨e',IX,hs⟩:=vz h;rw[he] at IX;cases IX;have lt:(es.take a).length=a:=by rw[zaQ];omega
 refine .inl ⟨rfl,by simp;omega,?_⟩
 rw[zce (by omega),zaN (by omega),zdF,lt,show a+1 - a=1 by omega,zbg (by omega),CM]
 exact hs
theorem ajg (h:a<es.length):Bk1 1 a e (es.take a++o::es.drop a) es:=by
 have lt:(es.take a).length=a:=by rw[zaQ];omega
 refine .inr (.inl ⟨rfl,by simp;omega,?_⟩)
 rw[zce (by omega),zaN (by omega),zdF,lt,show a+1 - a=1 by omega,zbg (by omega),CM]
 exact (zec a es).symm
theorem ad0 (h:a<es.length)(he:es[a]? = some e):Bk1 2 a e (es.take a++es.drop (a+1)) es:=by
 obtain⟨e',IX,hs⟩:=vz h;rw[he] at IX;cases IX;have lt:(es.take a).length=a:=by rw[zaQ];omega
 refine .inr (.inr ⟨rfl,by simp;omega,?_⟩)
 rw[zce (by omega),zaN (by omega),zdF,lt,zeD,zbg (by omega),CM,List.drop_zero]
 exact hs
noncomputable def z8 (p:Nat×Nat×bE):Tr:=.tp [.int (p.1:Int),.int (p.2.1:Int),p.2.2.t]
theorem T9 (us:List (Nat×Nat×bE))(w a:Nat)(e:bE):(us++[(w,a,e)]).map z8=us.map z8++[.tp [.int (w:Int),.int (a:Int),e.t]]:=by rw[zaK];rfl
theorem T_ (es:List bE)(S:Cs):cX false (.ls (es.map bE.t)) (.ls (es.map bE.t)) S = .ok (.bl true) S:=by
 refine Cr (.inl rfl) (.inl rfl) ?_ (yr λt ht=>?_)
 ·rw[fS,zdE,zaS]
  intro e _;cases e<;>rfl
 ·obtain⟨e,_,rfl⟩:=zbl.mp ht
  cases e<;>simp[bE.t,B.t,Tr.dp,Tr.qU]
theorem ad1 {K:List bE}{a:Nat}{e:bE}(h:K[a]? = some e):ig (K.map bE.t) (a:Int)=some e.t:=gq (by rw[zaq,h];rfl)
theorem law (ns:List Int)(JK:ns.length<=63):∃S,OA [.kl (ns.map .int)] [] = .ok (.bl true) S:=by
 obtain⟨cs,ec,lc⟩:=adZ ns JK []
 obtain⟨u,eu,u2,u11⟩:=OX cs (by omega) []
 obtain⟨d,hd⟩:=zbG (by omega:0<=u.d)
 have d2:2<=d:=by omega
 have lF:d<=11:=by omega
 obtain⟨t0,t1,p0,p1,et,l0,l1⟩:=OZ cs (by omega) d d2 lF []
 have hg5:∀S,bG u.t (.int 5) S = .ok (.int (d:Int)) S:=λS=>by rw[<-hd];rfl
 obtain⟨mn,Zn,asE⟩:∃mn:Nat,(∀S,wJ [.int 50,.int (3 * (cs.length:Int))] S = .ok (.int (mn:Int)) S)/\mn<=50:=by
  by_cases q:50<=3 * cs.length
  ·exact⟨50,λS=>by unfold wJ;simp only[];split<;>first|rfl | (congr 2;omega)|omega,zah _⟩
  ·exact⟨3 * cs.length,λS=>by unfold wJ;simp only[];split<;>first|rfl | (congr 2;omega)|omega,by omega⟩
 obtain⟨es,mN,ee,hR,hle⟩:=Ex cs (by omega) u t0 t1 l0 l1 d2 lF mn (by omega) []
 obtain⟨S1,y1,eb,B1,M1,_,f1⟩:=T6 u t0 t1 l0 l1 d2 lF []
 have eb:Om [.hd 0,u.t,aD t0 t1 p0 p1] [.d_ "Book" []] = .ok .bu S1:=eb
 have B1:iI S1 0 1 u (aD t0 t1 p0 p1) [] (.hd y1.a):=B1
 have f1:∀j∈fp y1,2<=j:=f1
 have D1:Dr (cZ u t0 t1 p0 p1) d 22:=(Fm.init u t0 t1 l0 l1 d2 lF []).D
 have zc:(cs.length<=sizeLine)=True:=bA (by omega)
 have W:=λ(S:Cs) (j cU:Int) (k0:0<=j) (k1:j<10000) (h0:0<cU) (h1:cU<1000000)=>And.intro (yt cs j h0) (qh cs (by omega) k0 k1 h0 h1 S)
 have qe:=λ(S:Cs) (k:Int) (k0:0<=k) (k1:k<9000) (e:bE)=>T8 cs (by omega) k0 k1 t0 t1 l0 l1 d2 lF e S
 unfold OA;have lX:(cs.map Tr.int).length=cs.length:=by simp
 generalize hX:cs.map Tr.int=X at *
 generalize Ph:cZ u t0 t1 p0 p1=m0 at *
 simp?[fx,n_,ec,eu,↓hg5,et,lX,zc,↓Zn,ee,eb];generalize hZ:fP _ _ _ _ _ _=Z
 obtain⟨τ,S2,⟨⟨v,rfl⟩,m',y,B,Mt,D,vU,nb,nk⟩,rfl⟩:=gk hZ (λi τ S'=>(∃v,τ=[some (.kl (ns.map .int)),some (.ls X),some u.t,some (aD t0 t1 p0 p1),some (.ls (es.map bE.t)),some (.hd 0),v,none,none,none,none,none,none,none,none])/\∃m y,iI S' 0 1 u (aD t0 t1 p0 p1) (es.take i) (.hd y.a)/\dI S' m y/\Dr m d (22+i)/\eW m0 (es.take i)=some m/\0∉fp y/\1∉fp y) (λ_ _ _ _=>trivial) ⟨⟨_,rfl⟩,m0,y1,B1,M1,D1,by rw[zdd];rfl,λq=>by have:=f1 _ q;omega,λq=>by have:=f1 _ q;omega⟩ (by
  rintro i t τ S' ht ⟨⟨v,rfl⟩,m',y,B,Mt,D,vU,nb,nk⟩
  rw[zaq] at ht;cases he:es[i]? with
  |none=>rw[he] at ht;cases ht
  |some e =>
   rw[he] at ht;cases ht;have jc:=(zab.mp he).1
   obtain⟨m2,q1,q2⟩:=qj i hR;rw[vU] at q1;cases q1;have hr:=q2 e he;obtain⟨S2,y2,k1,k2,k3,k4,k5,k6,_,_⟩:=T7 (e:=e) B Mt D (by omega) nb nk hr (by simp;omega)
   have hb:=B.hb;unfold Cv at hb;refine⟨[some (.kl (ns.map .int)),some (.ls X),some u.t,some (aD t0 t1 p0 p1),some (.ls (es.map bE.t)),some (.hd 0),some e.t,none,none,none,none,none,none,none,none],S2,.inl ?_,⟨_,rfl⟩,_,y2,by rw[zdc,he];exact k2,k3,k4,by rw[m8 vU he,if_pos hr],k5,k6⟩
   generalize e.t=et at *
   simp?[fx,n_,hb,k1])
 rw[zac] at B D vU;rw[zaH] at B vU;rw[hR] at vU;cases vU;rw[<-Ph] at hR;obtain⟨S3,y3,k3,F3⟩:=Cw B l0 l1 d2 lF hR (by omega)
 rw[Ph] at hR;have k4:=XG F3.z6 F3.D;rw[F3.a] at k4;have B3:=(B.only F3.on (by simp) (by simp)).only (S':=S3++[.bM []]) (F:=[]) aU.rq (by simp) (by simp)
 have hb:=B.hb;unfold Cv at hb;have lS3:2<=S3.length:=by have:=aH B.hk;have:=F3.on.1;omega
 have am2:=adH F3.D;have r5:(-4611686018427387904<=(5:Int)/\(5:Int)<4611686018427387904)=True:=eq_true (by decide)
 generalize hAT:Jf mN=aT at *
 simp?[fx,n_,hb,k3,k4,r5];have un0:(S3++[Ce.bM []])[S3.length]? = some (.bM (([]:List (Nat×Nat×bE)).map z8)):=mP _ _
 generalize hun:S3.length=un at *
 generalize hS4:S3++[Ce.bM []]=S4 at *
 clear hb k3 k4 hZ
 generalize hZ:fP _ _ _ _ _ _=Z
 obtain⟨τ,S5,⟨⟨v6,v9,v10,Uq,v12,XN,Pj,rfl⟩,K,us,kc,cu,mK,B5,u5,U5,R5,lK,lu,nk5⟩,rfl⟩:=gk hZ (λi τ S'=>(∃v6 v9 v10 Uq v12 XN Pj,τ=[some (.kl (ns.map .int)),some (.ls X),some u.t,some (aD t0 t1 p0 p1),some (.ls (es.map bE.t)),some (.hd 0),v6,some aT,some (.hd un),v9,v10,Uq,v12,XN,Pj])/\∃K us kc cu mK,iI S' 0 kc u (aD t0 t1 p0 p1) K cu/\S'[un]? = some (.bM (us.map z8))/\CN m0 es us K/\eW m0 K=some mK/\K.length<=50+i/\us.length<=i/\kc≠un) (λ_ _ _ _=>trivial) ⟨⟨_,_,_,_,_,_,_,rfl⟩,es,[],1,_,mN,B3,un0,.nil,hR,by omega,zah _,by omega⟩ (by
  rintro i t τ S' ht ⟨⟨v6,v9,v10,Uq,v12,XN,Pj,rfl⟩,K,us,kc,cu,mK,B5,u5,U5,R5,lK,lu,nk5⟩
  obtain⟨jc,rfl⟩:=oV ht;have jc:i<5:=jc
  have hb:=B5.hb;have ke:=Ho B5;unfold Cv at hb;have zK:((K.map bE.t).length<=sizeLine)=True:=bA (by simp;omega)
  have lKm:(K.map bE.t).length=K.length:=by simp
  by_cases hK:K.length=0
  ·refine⟨[some (.kl (ns.map .int)),some (.ls X),some u.t,some (aD t0 t1 p0 p1),some (.ls (es.map bE.t)),some (.hd 0),v6,some aT,some (.hd un),some (.int (0+(i:Int))),some (.ls (K.map bE.t)),Uq,v12,XN,Pj],S',.inl ?_,⟨_,_,_,_,_,_,_,rfl⟩,K,us,kc,cu,mK,B5,u5,U5,R5,by omega,by omega,nk5⟩
   generalize K.map bE.t=L at *
   have hL:L.length=0:=by omega
   simp?[fx,n_,hb,ke,zK,hL,wI,Ab]
  ·obtain⟨⟨a1,b1⟩,e1⟩:=W S' (3600+5 * (i:Int)) (K.length:Int) (by omega) (by omega) (by omega) (by omega)
   obtain⟨⟨a2,b2⟩,e2⟩:=W S' (3601+5 * (i:Int)) 4 (by omega) (by omega) (by decide) (by decide)
   obtain⟨a,ha⟩:=zbG a1;rw[ha] at e1 b1;have Ez:a<K.length:=by omega
   obtain⟨e,he,_⟩:=vz Ez;have XH:=ad1 he;obtain⟨o,ho⟩:=qe S' (3602+5 * (i:Int)) (by omega) (by omega) e
   have hp:(0<(K.length:Int))=True:=eq_true (by omega)
   have zu:(us.length<sizeLine)=True:=g_ (by omega)
   have n0:(0:Nat)∉([]:List Nat):=by simp
   generalize dv cs (3601+5 * (i:Int)) 4=v2 at *
   have PR:=Hq B5 l0 l1 d2 lF (by omega) Ez o
   have PI:=ajf B5 l0 l1 d2 lF (by omega) (zdx Ez) o
   have PO:=XM B5 l0 l1 d2 lF (by omega) Ez
   rw[Pu,Ph] at PR PI PO;have lR:(K.take a++o::K.drop (a+1)).length<=50+(i+1):=by simp;omega
   have lI:(K.take a++o::K.drop a).length<=50+(i+1):=by simp;omega
   have lO:(K.take a++K.drop (a+1)).length<=50+(i+1):=by simp;omega
   have UR:=CN.snoc U5 R5 (O6 (o:=o) Ez he)
   have UI:=CN.snoc (e:=e) U5 R5 (ajg (o:=o) Ez)
   have UO:=CN.snoc U5 R5 (ad0 Ez he)
   generalize K.take a++o::K.drop (a+1)=KR at *
   generalize K.take a++o::K.drop a=KI at *
   generalize K.take a++K.drop (a+1)=KO at *
   have lun:=aH u5;have dN:∀(w:Nat) (K':List bE) (S2:Cs) (vV:Nat) (y:Ly) (mm:M),iI S2 0 vV u (aD t0 t1 p0 p1) K' (.hd y.a)->S'.length<=vV->aU [0] S' S2->eW m0 K'=some mm->K'.length<=50+(i+1)->CN m0 es (us++[(w,a,e)]) K'->S2[un]? = some (.bM (us.map z8))/\∃K us' kc cu mK,iI (S2.set un (.bM (us.map z8++[.tp [.int (w:Int),.int (a:Int),e.t]]))) 0 kc u (aD t0 t1 p0 p1) K cu/\(S2.set un (.bM (us.map z8++[.tp [.int (w:Int),.int (a:Int),e.t]])))[un]? = some (.bM (us'.map z8))/\CN m0 es us' K/\eW m0 K=some mK/\K.length<=50+(i+1)/\us'.length<=i+1/\kc≠un:=λw K' S2 vV y mm q1 q2 q3 q4 q5 q6=>by
    have XO:=q3.at u5 (by simp;omega)
    exact⟨XO,K',us++[(w,a,e)],vV,_,mm,q1.only (F:=[un]) (aU.set (by simp)) (by simp;omega) (by simp;omega),by rw[T9];exact bR (aH XO),q6,q4,q5,by simp;omega,by omega⟩
   have aG:∀(S2:Cs),aU [] S' S2->∃K us' kc cu mK,iI S2 0 kc u (aD t0 t1 p0 p1) K cu/\S2[un]? = some (.bM (us'.map z8))/\CN m0 es us' K/\eW m0 K=some mK/\K.length<=50+(i+1)/\us'.length<=i+1/\kc≠un:=λS2 o2=>⟨K,us,kc,cu,mK,B5.only o2 (by simp) (by simp),o2.at u5 (by simp),U5,R5,by omega,by omega,nk5⟩
   clear W qe U5 R5
   have lus:(us.map z8).length=us.length:=by simp
   by_cases q1:v2<2
   ·have q2:¬ v2=2:=by omega
    have q3:¬ v2=3:=by omega
    rcases PR with⟨mm,S2,vV,y,r1,k2,B2,O7,_,_,_,o2⟩|⟨S2,ii,w,_,k2,o2⟩
    ·obtain⟨XO,cK⟩:=dN 0 KR S2 vV y mm B2 O7 o2 r1 lR UR
     refine⟨[some (.kl (ns.map .int)),some (.ls X),some u.t,some (aD t0 t1 p0 p1),some (.ls (es.map bE.t)),some (.hd 0),v6,some aT,some (.hd un),some (.int (0+(i:Int))),some (.ls (K.map bE.t)),some (.int (a:Int)),some (.int v2),some o.t,Pj],_,.inl ?_,⟨_,_,_,_,_,_,_,rfl⟩,cK⟩
     generalize K.map bE.t=L at *
     generalize us.map z8=V at *
     generalize e.t=et at *
     generalize o.t=ot at *
     simp?[fx,n_,hb,ke,zK,lKm,hp,wI,sW,Ab,e1,e2,XH,ho,q1,q2,q3,k2,XO,zu,lus]
    ·refine⟨[some (.kl (ns.map .int)),some (.ls X),some u.t,some (aD t0 t1 p0 p1),some (.ls (es.map bE.t)),some (.hd 0),v6,some aT,some (.hd un),some (.int (0+(i:Int))),some (.ls (K.map bE.t)),some (.int (a:Int)),some (.int v2),some o.t,Pj],S2,.inl ?_,⟨_,_,_,_,_,_,_,rfl⟩,aG S2 o2⟩
     generalize K.map bE.t=L at *
     generalize us.map z8=V at *
     generalize e.t=et at *
     generalize o.t=ot at *
     simp?[fx,n_,hb,ke,zK,lKm,hp,wI,sW,Ab,e1,e2,XH,ho,q1,q2,q3,k2,zu,lus]
   ·by_cases q2:v2=2
    ·have q3:¬ v2=3:=by omega
     rcases PI with⟨mm,S2,vV,y,r1,k2,B2,O7,_,_,_,o2⟩|⟨S2,ii,w,_,k2,o2⟩
     ·obtain⟨XO,cK⟩:=dN 1 KI S2 vV y mm B2 O7 o2 r1 lI UI
      refine⟨[some (.kl (ns.map .int)),some (.ls X),some u.t,some (aD t0 t1 p0 p1),some (.ls (es.map bE.t)),some (.hd 0),v6,some aT,some (.hd un),some (.int (0+(i:Int))),some (.ls (K.map bE.t)),some (.int (a:Int)),some (.int v2),some o.t,Pj],_,.inl ?_,⟨_,_,_,_,_,_,_,rfl⟩,cK⟩
      generalize K.map bE.t=L at *
      generalize us.map z8=V at *
      generalize e.t=et at *
      generalize o.t=ot at *
      simp?[fx,n_,hb,ke,zK,lKm,hp,wI,sW,Ab,e1,e2,XH,ho,q1,q2,q3,k2,XO,zu,lus]
     ·refine⟨[some (.kl (ns.map .int)),some (.ls X),some u.t,some (aD t0 t1 p0 p1),some (.ls (es.map bE.t)),some (.hd 0),v6,some aT,some (.hd un),some (.int (0+(i:Int))),some (.ls (K.map bE.t)),some (.int (a:Int)),some (.int v2),some o.t,Pj],S2,.inl ?_,⟨_,_,_,_,_,_,_,rfl⟩,aG S2 o2⟩
      generalize K.map bE.t=L at *
      generalize us.map z8=V at *
      generalize e.t=et at *
      generalize o.t=ot at *
      simp?[fx,n_,hb,ke,zK,lKm,hp,wI,sW,Ab,e1,e2,XH,ho,q1,q2,q3,k2,zu,lus]
    ·have q3:v2=3:=by omega
     rcases PO with⟨mm,S2,vV,y,r1,k2,B2,O7,_,_,_,o2⟩|⟨S2,ii,w,_,k2,o2⟩
     ·obtain⟨XO,cK⟩:=dN 2 KO S2 vV y mm B2 O7 o2 r1 lO UO
      refine⟨[some (.kl (ns.map .int)),some (.ls X),some u.t,some (aD t0 t1 p0 p1),some (.ls (es.map bE.t)),some (.hd 0),v6,some aT,some (.hd un),some (.int (0+(i:Int))),some (.ls (K.map bE.t)),some (.int (a:Int)),some (.int v2),some o.t,Pj],_,.inl ?_,⟨_,_,_,_,_,_,_,rfl⟩,cK⟩
      generalize K.map bE.t=L at *
      generalize us.map z8=V at *
      generalize e.t=et at *
      generalize o.t=ot at *
      simp?[fx,n_,hb,ke,zK,lKm,hp,wI,sW,Ab,e1,e2,XH,ho,q1,q2,q3,k2,XO,zu,lus]
     ·refine⟨[some (.kl (ns.map .int)),some (.ls X),some u.t,some (aD t0 t1 p0 p1),some (.ls (es.map bE.t)),some (.hd 0),v6,some aT,some (.hd un),some (.int (0+(i:Int))),some (.ls (K.map bE.t)),some (.int (a:Int)),some (.int v2),some o.t,Pj],S2,.inl ?_,⟨_,_,_,_,_,_,_,rfl⟩,aG S2 o2⟩
      generalize K.map bE.t=L at *
      generalize us.map z8=V at *
      generalize e.t=et at *
      generalize o.t=ot at *
      simp?[fx,n_,hb,ke,zK,lKm,hp,wI,sW,Ab,e1,e2,XH,ho,q1,q2,q3,k2,zu,lus])
 have l5:(pS 0 5).length=5:=rfl
 have lK:K.length<=55:=by rw[l5] at lK;exact lK
 have lu:us.length<=5:=by rw[l5] at lu;exact lu
 clear hZ W qe B3
 simp?[fx,n_,Sf,u5];generalize hZ:fP _ _ _ _ _ _=Z
 obtain⟨τ,S6,⟨⟨x6,gJ,x12,x14,rfl⟩,K6,kc6,cu6,m6,B6,u6,U6,R6,lK6,nk6⟩,rfl⟩:=gk hZ (λi τ S'=>(∃x6 gJ x12 x14,τ=[some (.kl (ns.map .int)),some (.ls X),some u.t,some (aD t0 t1 p0 p1),some (.ls (es.map bE.t)),some (.hd 0),x6,some aT,some (.hd un),v9,v10,gJ,x12,XN,x14])/\∃K kc cu mK,iI S' 0 kc u (aD t0 t1 p0 p1) K cu/\S'[un]? = some (.bM (us.map z8))/\CN m0 es (us.take (us.length - i)) K/\eW m0 K=some mK/\K.length<=55+i/\kc≠un) (λi τ S' ⟨_,K,kc,cu,mK,_,q,_⟩=>by show cD S' un=_;unfold cD;rw[q]) ⟨⟨_,_,_,_,rfl⟩,K,kc,cu,mK,B5,u5,by rw[Nat.sub_zero,zaH];exact U5,R5,by omega,nk5⟩ (by
  rintro i t τ S' ht ⟨⟨x6,gJ,x12,x14,rfl⟩,K,kc,cu,mK,B5,u5,U5,R5,lK,nk5⟩
  have jc:i<us.length:=by
   have:=(zab.mp ht).1
   simpa using this
  rw[zea (by simpa using jc),zac,zaq] at ht
  obtain⟨j,hj⟩:∃j,j=us.length - 1 - i:=⟨_,rfl⟩
  rw[<-hj] at ht;have hjl:j<us.length:=by omega
  have hx:=zae hjl
  rw[hx] at ht;cases ht;have e1:us.take (us.length - i)=us.take j++[us[j]]:=by
   rw[show us.length - i=j+1 by omega,zdc,hx]
   rfl
  rw[e1] at U5;obtain⟨K',w,a,e,m',g1,g2,g3,g4⟩:∃K' w a e m',us[j]=(w,a,e)/\CN m0 es (us.take j) K'/\eW m0 K'=some m'/\Bk1 w a e K K':=by
   rcases U5.inv with⟨q,_⟩|⟨us2,K',w,a,e,m',q1,q2,q3,q4⟩
   ·exact absurd q (List.append_ne_nil_of_right_ne_nil _ (by simp))
   ·obtain⟨q5,q6⟩:=List.append_inj' q1 rfl
    cases q5;exact⟨K',w,a,e,m',by simpa using q6,q2,q3,q4⟩
  rw[g1];have hb:=B5.hb;unfold Cv at hb;have dN:∀S2 vV (y:Ly),iI S2 0 vV u (aD t0 t1 p0 p1) K' (.hd y.a)->S'.length<=vV->aU [0] S' S2->K'.length<=55+(i+1)->∃K kc cu mK,iI S2 0 kc u (aD t0 t1 p0 p1) K cu/\S2[un]? = some (.bM (us.map z8))/\CN m0 es (us.take (us.length - (i+1))) K/\eW m0 K=some mK/\K.length<=55+(i+1)/\kc≠un:=λS2 vV y q1 q2 q3 q4=>⟨K',vV,_,m',q1,q3.at u5 (by simp;omega),by rw[show us.length - (i+1)=j by omega];exact g2,g3,q4,by have:=aH u5;omega⟩
  have no:∀{p:Prop},eW m0 K'=none->p:=λq=>by rw[g3] at q;cases q
  unfold z8;dsimp only;rcases g4 with⟨rfl,ha,hK⟩|⟨rfl,ha,hK⟩|⟨rfl,ha,hK⟩
  ·have P:=Hq B5 l0 l1 d2 lF (by omega) ha e
   rw[Pu,Ph,<-hK] at P;rcases P with⟨mm,S2,vV,y,r1,k2,B2,O7,_,_,_,o2⟩|⟨S2,ii,w,r1,_⟩
   ·refine⟨[some (.kl (ns.map .int)),some (.ls X),some u.t,some (aD t0 t1 p0 p1),some (.ls (es.map bE.t)),some (.hd 0),some e.t,some aT,some (.hd un),v9,v10,some (.int (a:Int)),some (.int ((0:Nat):Int)),XN,some .bu],S2,.inl ?_,⟨_,_,_,_,rfl⟩,dN S2 vV y B2 O7 o2 (by rw[hK];simp;omega)⟩
    generalize e.t=et at *
    simp?[fx,n_,hb,k2]
   ·exact no r1.none
  ·have P:=XM B5 l0 l1 d2 lF (by omega) ha
   rw[Pu,Ph,<-hK] at P;rcases P with⟨mm,S2,vV,y,r1,k2,B2,O7,_,_,_,o2⟩|⟨S2,ii,w,r1,_⟩
   ·refine⟨[some (.kl (ns.map .int)),some (.ls X),some u.t,some (aD t0 t1 p0 p1),some (.ls (es.map bE.t)),some (.hd 0),some e.t,some aT,some (.hd un),v9,v10,some (.int (a:Int)),some (.int ((1:Nat):Int)),XN,some .bu],S2,.inl ?_,⟨_,_,_,_,rfl⟩,dN S2 vV y B2 O7 o2 (by rw[hK];simp;omega)⟩
    generalize e.t=et at *
    simp?[fx,n_,hb,k2]
   ·exact no r1.none
  ·have P:=ajf B5 l0 l1 d2 lF (by omega) ha e
   rw[Pu,Ph,<-hK] at P;rcases P with⟨mm,S2,vV,y,r1,k2,B2,O7,_,_,_,o2⟩|⟨S2,ii,w,r1,_⟩
   ·refine⟨[some (.kl (ns.map .int)),some (.ls X),some u.t,some (aD t0 t1 p0 p1),some (.ls (es.map bE.t)),some (.hd 0),some e.t,some aT,some (.hd un),v9,v10,some (.int (a:Int)),some (.int ((2:Nat):Int)),XN,some .bu],S2,.inl ?_,⟨_,_,_,_,rfl⟩,dN S2 vV y B2 O7 o2 (by rw[hK];simp;omega)⟩
    generalize e.t=et at *
    simp?[fx,n_,hb,k2]
   ·exact no r1.none)
 rw[List.length_reverse,zac,zeD,zdd] at U6;have hK6:K6=es:=by
  rcases U6.inv with⟨_,q⟩|⟨us2,K',w,a,e,m',q1,_⟩
  ·exact q
  ·simp at q1
 subst hK6;have ke:=Ho B6;rw[<-Ph] at hR;obtain⟨S7,y7,k7,F7⟩:=Cw B6 l0 l1 d2 lF hR (by omega)
 have k8:=XG F7.z6 F7.D;rw[F7.a,hAT] at k8;have hb:=B6.hb;unfold Cv at hb;have g1:=T_ K6 S6;have g2:=am2 false S7;generalize K6.map bE.t=L at *
 exact⟨S7,by simp?[fx,n_,hb,ke,↓g1,k7,k8,↓g2]⟩
theorem zq1 {α:Type _}{P:List α -> Prop}(h:∀a,P [a]):∀us:List α,us.length=1->P us
 |[a],_=>h a
theorem zq2 {α:Type _}{P:List α -> Prop}(h:∀a b,P [a,b]):∀us:List α,us.length=2->P us
 |[a,b],_=>h a b
theorem zq3 {α:Type _}{P:List α -> Prop}(h:∀a b c,P [a,b,c]):∀us:List α,us.length=3->P us
 |[a,b,c],_=>h a b c
theorem zq4 {α:Type _}{P:List α -> Prop}(h:∀a b c d,P [a,b,c,d]):∀us:List α,us.length=4->P us
 |[a,b,c,d],_=>h a b c d
theorem zq5 {α:Type _}{P:List α -> Prop}(h:∀a b c d e,P [a,b,c,d,e]):∀us:List α,us.length=5->P us
 |[a,b,c,d,e],_=>h a b c d e
section
variable {K:W.Frag}{h:Heap}{mg:Str->Option Value}{C:Addr}{x b_:Str}{st:Stmt}{ps:List Str}{f:Addr}{oc:Value}{od an:Option Addr}{C7:Array (Option Value)}{kV nD pm eY ct:Value}(X:K.In h)(G:h.Ns mainGlobals mg)
include X G in
theorem dmk (hb:∀(kV nD pm:Value) (an:Option Addr) (eY ct:Value) (us:List Value),us.length=ps.length->bindArgs (W.fnOf x x (dX st) (cP st) (aj st) .none kV nD pm an eY ct) ⟨us,[]⟩=pure (ps.zip us))(a:W.nsIn K mainGlobals x=some (some (.ref f)))(l:K.lookup f=some ⟨oc,od,.func (W.fnOf x x (dX st) (cP st) (aj st) .none kV nD pm an eY ct),C7⟩)(c:W.codeIn K eY x=true)(k:W.keepIn K (.ref f)=true):pU K mg x st ps f (W.fnOf x x (dX st) (cP st) (aj st) .none kV nD pm an eY ct):=⟨yO l c k,W.mg_of X G a,(yO l c k).qt hb⟩
theorem mmk (hb:∀(kV nD pm:Value) (an:Option Addr) (eY ct:Value) (us:List Value),us.length=ps.length->bindArgs (W.fnOf x b_ (dX st) (cP st) (aj st) .none kV nD pm an eY ct) ⟨us,[]⟩=pure (ps.zip us))(a:W.findIn K (.ref C) x=some (some (.ref f)))(i:W.isFn K (.ref f)=true)(l:K.lookup f=some ⟨oc,od,.func (W.fnOf x b_ (dX st) (cP st) (aj st) .none kV nD pm an eY ct),C7⟩)(c:W.codeIn K eY b_=true)(k:W.keepIn K (.ref f)=true):iC K C x b_ st ps f (W.fnOf x b_ (dX st) (cP st) (aj st) .none kV nD pm an eY ct):=⟨yO l c k,⟨a,i,k⟩,(yO l c k).qt hb⟩
end
theorem am4 {l:W.OpenLaw}{w:World}{K:W.Frag}{h:Heap}{mg:Str->Option Value}{fa:Addr}(X:K.In h)(G:h.Ns mainGlobals mg)(hfa:mg "law"=some (.ref fa)){A6 A7 A8 A9 A_ Ba tL w_ xg xh xj xm xo xq xr xu xw xx Bb Bc xy xA xB Bd xC xD xE xF Be Bf Bg Bh Bj Bk Bl xG DP xH Bm Bo xJ xK xM xN xO xP xQ xR xS Bp Bq xT xU xV xW xX xY xZ Br Bt DQ IA x_ Bu IB IC Bv ID IE IG II IJ Bw:Addr}{tM tN tO tP tQ tR tS tT tU tV tW tX tY tZ t6 t7 t8 t9 t_ ua uc ud ue uf ug uh um uo uq ur uv uw ux uy uz uA Bx uB uC uD uE uF uG uH uI uJ uK uL uM uN uO uP uQ uR uS uU uV uW uX uY BA BB uZ u9 BC BD u_ BE BF BG BH BI nM:FuncData}{aV bq dY:Addr}{jk zw iE iF mR iG jm kF mS FZ kG iH jn mT:Tok}(TF:TxF K mg (AdF.mk A6 A7 A8 A9 A_ Ba tL w_ xg xh xj xm xo xq xr xu xw xx Bb Bc xy xA xB Bd xC xD xE xF Be Bf Bg Bh Bj Bk Bl xG DP xH Bm Bo xJ xK xM xN xO xP xQ xR xS Bp Bq xT xU xV xW xX xY xZ Br Bt DQ IA x_ Bu IB IC Bv ID IE IG II IJ Bw tM tN tO tP tQ tR tS tT tU tV tW tX tY tZ t6 t7 t8 t9 t_ ua uc ud ue uf ug uh um uo uq ur uv uw ux uy uz uA Bx uB uC uD uE uF uG uH uI uJ uK uL uM uN uO uP uQ uR uS uU uV uW uX uY BA BB uZ u9 BC BD u_ BE BF BG BH BI nM aV bq dY jk zw iE iF mR iG jm kF mS FZ kG iH jn mT))
  {br:Addr} {cdB:ClassData} {nmB qB:Str} {NB:Addr} {bsB am5:List Value} {RE:Bool} {snB:List Str} {abB:Bool} {am6:Option Bool} {ddB:Option Addr} {kaB kbB kcB kdB keB:Option Value} {am7:String} {Jh O8:Str} {O9 bL bw:Addr} {Ji EA:List Value} {Jj:List Str} {Jk:Bool} {EE:Option Bool} {Jl:Option Addr} {Jm Jo Jp Jq Jr:Option Value} {EF kL:Option Addr} {EG:Array (Option Value)} {EH kM kN kO jb kP:Value} {mz:Addr} {EI:Value} {EJ:Option Addr} {Js:Nat} {EK:Array (Option Value)} {iK:Tok}
  (am8:W.nsIn K mainGlobals "BookError"=some (some (.ref br)))
  (am9:W.clsIn K br=some cdB)
  (ana:W.typeIn K (.ref br)=some (.type "type"))
  (anb:W.specialIn K (.ref br) "__getattribute__"=some (some (.builtin "type.__getattribute__")))
  (anc:W.readsIn K br (.type "type")=true)
  (ane:W.findCls K (.ref br) (.type "type") "__init__"=some (.val (.builtin "ValueError.__init__")))
  (anf:W.tailIn K q_ (.ref br::q_)=true)
  (ang:K.lookup br=some (excClassObj nmB qB br NB bsB q_ RE snB am5 abB am6 ddB kaB kbB kcB kdB keB am7))
  (xgc:W.specialIn K (.builtin "object.__class__") "__get__"=some (some (.builtin "getset_descriptor.__get__")))
  (xtc:W.takesIn K (.builtin "object.__class__")=some true)
  (yv:W.nsIn K mainGlobals "NotLet"=some (some (.ref bL)))
  (Jt:K.lookup bL=some (excClassObj Jh O8 bL O9 Ji (.ref br::q_) true Jj EA Jk EE Jl Jm Jo Jp Jq Jr "ValueError.__new__"))
  (Ju:W.findIn K (.ref bL) "__init__"=some (some (.ref bw)))
  (Jv:W.typeIn K (.ref bw)=some (.type "function"))
  (Jw:W.keepIn K (.ref bL)=true)
  (Jx:W.findIn K (.ref bL) "__setattr__"=some (some (.builtin "object.__setattr__")))
  (Jy:W.findIn K (.ref bL) "__getattribute__"=some (some (.builtin "BaseException.__getattribute__")))
  (Jz:W.findIn K (.ref bL) "__getattr__"=some none)
  (JA:W.findIn K (.ref bL) "__class__"=some (some (.builtin "object.__class__")))
  (vA:W.findIn K (.ref bL) "rule"=some none)
  (ql:W.findIn K (.ref bL) "number"=some none)
  (JB:K.lookup bw=some ⟨EH,EF,.func (W.fnOf "__init__" "NotLet.__init__" (dX dD) (cP dD) (aj dD) (.ref mz) kM kN kO kL jb kP),EG⟩)
  (JC:W.codeIn K jb "NotLet.__init__"=true)
  (yw:K.lookup mz=some ⟨EI,EJ,.seq #[.int 0 iK] Js,EK⟩)
  (JD:bL≠br)
  : ∃fd:FuncData,(∀(s:Shared) (v:Value),BindsTo s fd ⟨[v],[]⟩ [("_law_script",v)])/\∀base:Heap,K.In base->base.Ns mainGlobals mg->aN l.prog w K mg base dM 12 fa fd ["_law_script"] (FI K):=by
 have e:=hfa.symm.trans TF.Nb.m;cases e;have Cy:oF K bL bw (.ref br::q_):=⟨⟨_,_,_,_,_,_,_,_,_,_,_,_,_,_,Jt⟩,anf,Ju,Jv,Jw,Jx,Jy,Jz,JA,⟨_,rfl⟩⟩
 have JE:eB K (W.fnOf "__init__" "NotLet.__init__" (dX dD) (cP dD) (aj dD) (.ref mz) kM kN kO kL jb kP) ["self","words","rule","number"] []:=λs us X' hl=>by
  rw[zaz] at hl ⊢
  match us,hl with|[_,_,_,_],_=>exact W.binds_K X' rfl yw rfl rfl rfl
 have EL:eB K (W.fnOf "__init__" "NotLet.__init__" (dX dD) (cP dD) (aj dD) (.ref mz) kM kN kO kL jb kP) ["self","words","rule","number"] [.int 0 iK]:=λs us X' hl=>by
  have JJ:us.length=3:=by simpa using hl
  match us,JJ with|[_,_,_],_=>exact W.binds_K X' rfl yw rfl rfl rfl
 have anh:∀p∈([("NotLet",bL,bw)]:List (Str×Addr×Addr)),mg p.1=some (.ref p.2.1)/\oF K p.2.1 p.2.2 (.ref br::q_):=by
  intro p hp;simp only[zao,zbe,or_false] at hp;rcases hp with rfl
  ·exact⟨W.mg_of X G yv,Cy⟩
 let a:Ad:={ toAdF:=AdF.mk A6 A7 A8 A9 A_ Ba tL w_ xg xh xj xm xo xq xr xu xw xx Bb Bc xy xA xB Bd xC xD xE xF Be Bf Bg Bh Bj Bk Bl xG DP xH Bm Bo xJ xK xM xN xO xP xQ xR xS Bp Bq xT xU xV xW xX xY xZ Br Bt DQ IA x_ Bu IB IC Bv ID IE IG II IJ Bw tM tN tO tP tQ tR tS tT tU tV tW tX tY tZ t6 t7 t8 t9 t_ ua uc ud ue uf ug uh um uo uq ur uv uw ux uy uz uA Bx uB uC uD uE uF uG uH uI uJ uK uL uM uN uO uP uQ uR uS uU uV uW uX uY BA BB uZ u9 BC BD u_ BE BF BG BH BI nM aV bq dY jk zw iE iF mR iG jm kF mS FZ kG iH jn mT,br:=br,bL:=bL,bw:=bw,dZ:=W.fnOf "__init__" "NotLet.__init__" (dX dD) (cP dD) (aj dD) (.ref mz) kM kN kO kL jb kP,iK:=iK}
 have T:Txt K mg a:={
  toTxF:=TF
  Er:=⟨W.mg_of X G am8,⟨anb,anc,ane⟩,by show (W.clsIn K br).isSome=true;rw[am9];rfl,ana,⟨_,_,_,_,_,_,_,_,_,_,_,_,_,_,_,_,ang⟩,⟨xgc,xtc⟩,anh⟩
  fF:=⟨Cy,W.mg_of X G yv,JE,⟨_,_,_,_,_,_,_,_,_,_,_,rfl,JB,JC⟩⟩
  yc:=EL
  iX:=vA
  jN:=ql
  IQ:=JD
 }
 obtain⟨_,_,_,_,_,_,_,_,_,ef,_⟩:=TF.Nb.F.ex;exact⟨nM,λs v=>by rw[show nM=_ from ef];exact .of_eq rfl,λbase _ _=>aae (abX T) law⟩
theorem walk {l:W.OpenLaw}{q:Program}{wu:List Str}{XP:(Str->Option Value)->Heap->Prop}{YP:World->Heap->Prop}{d:DefRec}{K:Params->W.Frag}(hn:l.most=some 63)(hdf:d.params.defaults=[])
  (hY:∀(w:World) (h:Heap),YP w h->(K w.params).In h)
  (F:∀(w:World) (mg:Str->Option Value) (fa:Addr) (h:Heap),(K w.params).In h->h.Ns mainGlobals mg->mg d.name=some (.ref fa) ->
   ∃fd:FuncData,(∀(s:Shared) (u:Value),BindsTo s fd ⟨[u],[]⟩ [("_law_script",u)])/\∀base:Heap,(K w.params).In base->base.Ns mainGlobals mg->aN l.prog w (K w.params) mg base dM 12 fa fd ["_law_script"] (FI (K w.params))):
  W.WalkO q wu XP YP l.row.toRowW d [] (λf vs=>PySem.call f vs):=
 L2.Qq (n:=63) (k:=12) (x:= "_law_script") (CX:=λ_=>dM) (sp:=λw=>FI (K w.params)) hn (by decide) hdf ⟨rfl,by decide,by decide⟩ hY F (λ_ _ a ns hl _ hS=>⟨a,ns,rfl,hS,hl,λ_=>rfl⟩) λ_ _ _ _ _ z=>z
end My
structure PySem.W.Fast:Prop where(tw4857730800834119425 tw6487647908204564324 tw17032095725010937623 tw13602172295729756271 tw11416967716391349455 tw11262877762501690697 tw5278794334597154525 tw13693939621320737702 tw17501879135623327683 tw8370853997145195225 tw4942374953101475445 tw12918721538389425477 tw3902907910928698695 tw10852929608162104996 tw2348933170689489607 tw10020582879123171331 tw14854344800341275784 tw14016138660598885008 tw1506877283332655929 tw14988542838367174579 tw9755007141402086231 tw1262737235334523330 tw8787690401416805511 tw4669368999259765988 tw17474347066593935875 tw2379080142692531628 tw12013155820190045625 tw16985764913607551175 tw13461780918741804739 tw14128944083001606651 tw12440092159740705820 tw17194450383039847837 tw11160412289137553021 tw14527258124342766958 tw17453732649312866365 tw4194473029528811232 tw17757577392069203837 tw3677433472041651288 tw12695235052211805010 tw3850783022344754347 tw10801320026751317969 tw18209786915628231340 tw15782410042010548561 tw3402234822780378459 tw12429825316388729551 tw8664153905476112691 tw2921180253364855818 tw10827820409430599310 tw16502699101625169273 tw1866949995380567610 tw2142323883199201331 tw2953527220784978801 tw3354657065132844852 tw13510908751392901442 tw9089665127210459178 tw8709999389527630388 tw14337922432746746974 tw98158122637237638 tw14024129453988623020 tw3634067171688515220 tw14236362412783861171 tw5058080911712174793 tw10298858176016520807 tw18158924902985453637 tw17936616202736762027 tw669013888251510143 tw3401139004467734943 tw8637004301209508548 tw14844355823257019075 tw315240426993335813 tw3483737631727286687 tw12861629402601509991 tw17549261140271021702 tw13799545089744332897 tw18417597025626031737 tw1639143321405912824 tw12928600407294079404 tw2601143733095195109 tw17162569854481639222 tw2741385512730975044 tw4290911005918468599 tw4219902902849181277 tw17804739626229771497 tw13716468130309240011 tw8704371277239189225 tw2361136519794707506 tw8103951902209755054 tw1587731276800651313 tw4640025564752369319 tw13124510754197877764 tw771720165254255463 tw17821392489888278399 tw9779780800919721222 tw17063813321605370226 tw1059269062787527652 tw5649916724344780203 tw2188556686597134337 tw2277163968955117564 tw7514295273286833865 tw2962038894778609878 tw11366356553816099105 tw13810387355928218457 tw17551684995345432751 tw14255127121296268268 tw12062732588056178216 tw13113681761521457584 tw9257992942405146110 tw15055929263791974432 tw16130644585538406273 tw9722621459819609433 tw6416399424462779200 tw4447797249833981284 tw8332770326800457438 tw16981942245216256922 tw16470811851731885868 tw18048831227099768234 tw2106643391250362546 tw9274796056539673689 tw11078987077128194198 tw13417159718058337224 tw2957706210401853773 tw1385550703762761994 tw1655612406112176016 tw3530858177167465319 tw9847959984713217113 tw10138289061799873511 tw166674935863975165 tw17392613276687533033 tw5122979941772437926 tw2804025850426835463 tw369318362661549905 tw14008363685779262463 tw12133751991018210107 tw15720607403001629755 tw17612252793860754366 tw5814859411240438101 tw13515395246657566028 tw7338386171061266580 tw589534227564528964 tw11210726039100521079 tw4468301114140863717 tw9204693888570412047 tw12894367624106201464 tw14250088258299048341 tw17242013986827284529 tw5742690853504109685 tw8933499849030926463 tw6881814970246610219 tw981714120501721849 tw11559376225167062963 tw17994317712703873763 tw4696053178394790784 tw18361868703939333830 tw7754226168414158576 tw12054043608692201172 tw15942827973663589195 tw1904623143669880155 tw14557805468518870499 tw15350142887034708641 tw2859534324425039960 tw1242704611612944556 tw18072730498802323818 tw15376962095267573305 tw8750465225229657258 tw16213104159556782981 tw3176452879308355761 tw17417493434891679445 tw10572786014456283991 tw5600445711573353594 tw4393781643341704888 tw9800046778568943399 tw4695580733389004261 tw1863348120736810823 tw1674546901907203370 tw17917182253006229605 tw588502131117726227 tw17504914136320579894 tw1765606489606769800 tw17540852669708057117 tw8192539975768924941 tw15648955667418689361 tw6273764362971505160 tw2581324895133106425 tw6204864557286464347 tw11777006171308338909 tw11755956999558139294 tw5105081016561338845 tw4540644005176709740 tw15027151778714708415 tw10440213545551180770 tw11033353223494852541 tw8112912216228481699 tw14297936667090286959 tw3861851472681881636 tw11513577076715558526 tw12245119242683437521 tw3441632618444382624 tw16006693704487375412 tw4117476221811741976 tw1104329584112778816 tw6169445931218891325 tw5324949477608599015 tw17476749073306072151 tw12728501091148312584 tw4898900730011267686 tw2658875475876893496 tw6455392900437372618 tw15096455009369229564 tw17259597881333328372 tw549329556898686641 tw6690785389628716373 tw12049165223613842308 tw12837637757592359758 tw5103354519968278788 tw182320889339031594 tw9989150681891420241 tw10212785656488720703 tw9480467454436274748 tw3463018451120533380 tw1617433376414598486 tw52857072639456840 tw163814989129084576 tw14007843126428816167 tw13859404738893336336 tw6880383075965886589 tw13830171926944465225 tw15073784662927373718 tw13837259051737588988 tw17860089874132582137 tw10403238243142503458 tw2361829082990190500 tw1570372760029566571 tw7949941831568796238 tw7878912058681111037 tw12161426555275721347 tw6033977584110370233 tw6965394786586201530 tw5968189380222056007 tw6060055414660760186 tw9772415826381470257 tw1612924347320211760 tw1398648144636208384 tw2404906632474966782 tw2189289080954817893 tw8989393519869576300 tw3209791542745262416 tw15797129408597165121 tw13383241318696539678 tw385062528197671485 tw4611765474327483493 tw7189273050353933730 tw8841992390988844794 tw13722994816923388291 tw1509613345633753314 tw813310788299242516 tw5551139569472052323 tw14436894102799565616 tw6538120727599741577 tw1937037456224686445 tw14505125074055192206 tw10420671424116351545 tw12224150699106161887 tw7909890971856524895 tw11361412934442111122 tw3667331148333594995 tw16110469007014760569 tw10658515884399732441 tw3198916450028002884 tw8431698436740907272 tw9936070238522826266 tw5682972315673027410 tw14267692561790656650 tw5156470540821001866 tw7865453384166512083 tw17489438004320989409 tw2996670756631480720 tw11190097319896593610 tw1204356903305137407 tw14525762725615856234 tw18347724867764554262 tw289641823953806455 tw6807168396316431001 tw1444723784003851559 tw18227013473313155523 tw12205298108103603348 tw9091621495485343231 tw5686250295609782185 tw4605306362521110860 tw14443887713647989647 tw13994845476400009938 tw1646007994147024414 tw4053801890189184451 tw7599583370820599124 tw7036524794932431094 tw9641880853687057204 tw84280877627185299 tw1165559116538722650 tw3801740176141476773 tw18295419009789008874 tw16872161679347551977 tw3854444749019260426 tw6726186309755627470 tw18164953485503321547 tw15332165232410391355 tw9846553247325108015 tw750672408314284310 tw16035497774446289552 tw10244820000883667591 tw12946808492309888958 tw1154782722330421529 tw8592967566115286093 tw17043638551766858150 tw14789316146004784889 tw17131042237989225577 tw5390181118498269496 tw15398719719254121242 tw9507276918868805884 tw17585347856741218321 tw16132585380906798870 tw9401698858576389515 tw3317443745860112783 tw5185417178927289121 tw7414363704037461250 tw13778224558894613125 tw10848279605506629965 tw17167376181527668786 tw5591586905225178705 tw16517841307643841471 tw11742870023862921736 tw1572054482026074906 tw1512011359695226104 tw11142374004830976094 tw18214946054300884561 tw7109890664098569690 tw3706271454921248387 tw15557736646133154095 tw973009751553856531 tw5215808457647664807 tw10077672486748420991 tw3168997044310197829 tw2377277961587673872 tw9410234787938672833 tw6455464770416840394 tw804455460168223430 tw15875937427477627390 tw11756717316633340727 tw12980505929072939564 tw2719941926687236129 tw17472551534873714136 tw16678941046021482567 tw3284090185086540345 tw545175553123497861 tw12335052099377183720 tw17432658040664085167 tw10370552121798453920 tw14210327565819157145 tw9410474741421784964 tw11258635783691291703 tw1285955430306427835 tw10337155155528742632 tw18279891764657930004 tw12149857644776827000 tw16327458746547687917 tw10226295675155804647 tw4078362358304953040 tw9220308049883506186 tw3577341868234350107 tw11655451994375485902 tw3619017936724965727 tw15646604153051778883 tw14322422564603956288 tw9583916268028396638 tw11481628440595689551 tw17839872283622394939 tw4877331708507967553 tw16979189045282510491 tw9918608034762611847 tw15882319138743514099 tw5933725621817232118 tw1416799086630752363 tw9428692757650016790 tw5068951322440569992 tw9910009036129160496 tw8426863940423842603 tw6760834413316793780 tw11005271031749607424 tw4218596806324533930 tw12565453919263577267 tw3212214172457030983 tw8792664914476859970 tw4018621495073636333 tw17685788132298230167 tw6075408393271988059 tw12098070648300028144 tw11895550221073768972 tw9688086937755695104 tw573212799076581337 tw10607259597576838030 tw7229168245246720096 tw8777363231701481083 tw5834200885054429785 tw7185221289527131695 tw17109995923625319675 tw17905007292863935305 tw14662655647485262394 tw3342690039886692743 tw6378627348536526823 tw17738320330282129369 tw13533832548980171671 tw4352318260953660804 tw13231785493356627349 tw2328609377119645403 tw16682692594354848506 tw11288538630779574625 tw9570123354285702795 tw1927540039914861248 tw5250073201297411277 tw695477169533990176 tw15198559803900374630 tw14792365252124467146 tw17453248933126833740 tw16416499794262193326 tw13334863057595162977 tw3952410670261565944 tw4083483590689809230 tw15384816488614226779 tw17342753125595070822 tw5721346061458171803 tw13974514086736357695 tw10935381750751126409 tw9322472632475575195 tw99479034224991359 tw17163531222996079223 tw3302527896028487783 tw13229977211869432235 tw17154862739869807685 tw6332128019404529889 tw9466879839587347162 tw1958172170504245263 tw12514710868238993372 tw16367538262780664216 tw11235597125755877053 tw1190598139019866851 tw11369037717140031104 tw7833516703381905524 tw13410423454690091845 tw12948669404770920379 tw14875830439515330302 tw6660798932014506739 tw4335415734367553997 tw882655150598652734 tw18188764115844889183 tw6487863866199893464 tw9642257212000315782 tw15353929762822603588 tw2678920925556662720 tw10036195023649299767 tw11275371982815004721 tw17147873968855752281 tw1480997086004446076 tw14870553644774726527 tw3688354368978135773 tw9345426604743698166 tw7177530175661691078 tw15493040975994086626 tw6060082590853746029 tw10509151979501695181 tw12380200825607038258 tw7735498860873574134 tw14432580798304777361 tw10686873414108847013 tw17730633706165236213 tw15045628715798043843 tw5676310622428087410 tw16518739266841577007 tw10588789664296583881 tw2873545274510020550 tw18061703095194130231 tw9622852593651444420 tw1707819406093738493 tw8747224890980918788 tw10543908070737300217 tw16193739621007723766 tw13360340608137260911 tw5931607146997639657 tw5550287084701828963 tw12756929073350776996 tw17873088398515361068 tw17926598496437139961 tw26444166538721076 tw8748153394669912594 tw13169914416771659617 tw11614698029258824755 tw5974503408258739289 tw6495571225480161470 tw7361188417433765550 tw14833133757879808203 tw5135783452580052284 tw3001443251833562147 tw8573253396878570893 tw1720201948997477978:True)
open PySem PySem.W PyProof.Rows
set_option maxRecDepth 100000 in
set_option maxHeartbeats 0 in
theorem PySem.Challenge.cw_inningsbook_k53_whole_there_and_back_holds : PySem.Challenge.rw_inningsbook_k53_whole_there_and_back.Holds := by
  w_on; o_law; k_head; (case hw => w_witness2)
  k_fill
  refine My.walk (l := PySem.Challenge.rw_inningsbook_k53_whole_there_and_back) rfl rfl (fun w h Y => PySem.W.kIn_of Y) ?F
  case F =>
    intro w mg fa h KX G hmg
    refine' My.am4 KX G hmg ⟨PySem.W.mg_none_of KX G ?_, PySem.W.mg_none_of KX G ?_, PySem.W.mg_none_of KX G ?_, PySem.W.mg_none_of KX G ?_, PySem.W.mg_none_of KX G ?_, PySem.W.mg_none_of KX G ?_, PySem.W.mg_none_of KX G ?_, PySem.W.mg_none_of KX G ?_, PySem.W.mg_none_of KX G ?_, PySem.W.mg_of KX G ?_, PySem.W.mg_of KX G ?_, PySem.W.mg_of KX G ?_, PySem.W.mg_of KX G ?_, PySem.W.mg_of KX G ?_, PySem.W.mg_of KX G ?_, PySem.W.mg_of KX G ?_, PySem.W.mg_of KX G ?_, PySem.W.mg_of KX G ?_, PySem.W.mg_of KX G ?_, PySem.W.mg_of KX G ?_, PySem.W.mg_of KX G ?_, PySem.W.mg_of KX G ?_, PySem.W.mg_of KX G ?_, My.dmk KX G (fun _ _ _ _ _ _ => My.zq2 (fun _ _ => rfl)) ?_ ?_ ?_ ?_, My.dmk KX G (fun _ _ _ _ _ _ => My.zq3 (fun _ _ _ => rfl)) ?_ ?_ ?_ ?_, My.dmk KX G (fun _ _ _ _ _ _ => My.zq3 (fun _ _ _ => rfl)) ?_ ?_ ?_ ?_, My.dmk KX G (fun _ _ _ _ _ _ => My.zq1 (fun _ => rfl)) ?_ ?_ ?_ ?_, My.dmk KX G (fun _ _ _ _ _ _ => My.zq2 (fun _ _ => rfl)) ?_ ?_ ?_ ?_, My.dmk KX G (fun _ _ _ _ _ _ => My.zq2 (fun _ _ => rfl)) ?_ ?_ ?_ ?_, My.mmk (fun _ _ _ _ _ _ => My.zq3 (fun _ _ _ => rfl)) ?_ ?_ ?_ ?_ ?_, My.mmk (fun _ _ _ _ _ _ => My.zq1 (fun _ => rfl)) ?_ ?_ ?_ ?_ ?_, My.mmk (fun _ _ _ _ _ _ => My.zq1 (fun _ => rfl)) ?_ ?_ ?_ ?_ ?_, My.mmk (fun _ _ _ _ _ _ => My.zq2 (fun _ _ => rfl)) ?_ ?_ ?_ ?_ ?_, My.mmk (fun _ _ _ _ _ _ => My.zq2 (fun _ _ => rfl)) ?_ ?_ ?_ ?_ ?_, My.mmk (fun _ _ _ _ _ _ => My.zq1 (fun _ => rfl)) ?_ ?_ ?_ ?_ ?_, My.mmk (fun _ _ _ _ _ _ => My.zq1 (fun _ => rfl)) ?_ ?_ ?_ ?_ ?_, My.mmk (fun _ _ _ _ _ _ => My.zq1 (fun _ => rfl)) ?_ ?_ ?_ ?_ ?_, My.mmk (fun _ _ _ _ _ _ => My.zq1 (fun _ => rfl)) ?_ ?_ ?_ ?_ ?_, My.mmk (fun _ _ _ _ _ _ => My.zq1 (fun _ => rfl)) ?_ ?_ ?_ ?_ ?_, My.mmk (fun _ _ _ _ _ _ => My.zq1 (fun _ => rfl)) ?_ ?_ ?_ ?_ ?_, My.mmk (fun _ _ _ _ _ _ => My.zq1 (fun _ => rfl)) ?_ ?_ ?_ ?_ ?_, My.dmk KX G (fun _ _ _ _ _ _ => My.zq3 (fun _ _ _ => rfl)) ?_ ?_ ?_ ?_, My.dmk KX G (fun _ _ _ _ _ _ => My.zq4 (fun _ _ _ _ => rfl)) ?_ ?_ ?_ ?_, My.mmk (fun _ _ _ _ _ _ => My.zq2 (fun _ _ => rfl)) ?_ ?_ ?_ ?_ ?_, My.mmk (fun _ _ _ _ _ _ => My.zq2 (fun _ _ => rfl)) ?_ ?_ ?_ ?_ ?_, My.mmk (fun _ _ _ _ _ _ => My.zq2 (fun _ _ => rfl)) ?_ ?_ ?_ ?_ ?_, My.dmk KX G (fun _ _ _ _ _ _ => My.zq2 (fun _ _ => rfl)) ?_ ?_ ?_ ?_, My.mmk (fun _ _ _ _ _ _ => My.zq3 (fun _ _ _ => rfl)) ?_ ?_ ?_ ?_ ?_, My.mmk (fun _ _ _ _ _ _ => My.zq1 (fun _ => rfl)) ?_ ?_ ?_ ?_ ?_, My.mmk (fun _ _ _ _ _ _ => My.zq1 (fun _ => rfl)) ?_ ?_ ?_ ?_ ?_, My.mmk (fun _ _ _ _ _ _ => My.zq1 (fun _ => rfl)) ?_ ?_ ?_ ?_ ?_, My.dmk KX G (fun _ _ _ _ _ _ => My.zq2 (fun _ _ => rfl)) ?_ ?_ ?_ ?_, My.dmk KX G (fun _ _ _ _ _ _ => My.zq4 (fun _ _ _ _ => rfl)) ?_ ?_ ?_ ?_, My.dmk KX G (fun _ _ _ _ _ _ => My.zq1 (fun _ => rfl)) ?_ ?_ ?_ ?_, My.dmk KX G (fun _ _ _ _ _ _ => My.zq2 (fun _ _ => rfl)) ?_ ?_ ?_ ?_, My.dmk KX G (fun _ _ _ _ _ _ => My.zq3 (fun _ _ _ => rfl)) ?_ ?_ ?_ ?_, My.dmk KX G (fun _ _ _ _ _ _ => My.zq4 (fun _ _ _ _ => rfl)) ?_ ?_ ?_ ?_, My.dmk KX G (fun _ _ _ _ _ _ => My.zq5 (fun _ _ _ _ _ => rfl)) ?_ ?_ ?_ ?_, My.mmk (fun _ _ _ _ _ _ => My.zq2 (fun _ _ => rfl)) ?_ ?_ ?_ ?_ ?_, My.mmk (fun _ _ _ _ _ _ => My.zq5 (fun _ _ _ _ _ => rfl)) ?_ ?_ ?_ ?_ ?_, My.mmk (fun _ _ _ _ _ _ => My.zq2 (fun _ _ => rfl)) ?_ ?_ ?_ ?_ ?_, My.dmk KX G (fun _ _ _ _ _ _ => My.zq3 (fun _ _ _ => rfl)) ?_ ?_ ?_ ?_, My.dmk KX G (fun _ _ _ _ _ _ => My.zq2 (fun _ _ => rfl)) ?_ ?_ ?_ ?_, My.mmk (fun _ _ _ _ _ _ => My.zq2 (fun _ _ => rfl)) ?_ ?_ ?_ ?_ ?_, My.mmk (fun _ _ _ _ _ _ => My.zq1 (fun _ => rfl)) ?_ ?_ ?_ ?_ ?_, My.mmk (fun _ _ _ _ _ _ => My.zq2 (fun _ _ => rfl)) ?_ ?_ ?_ ?_ ?_, My.mmk (fun _ _ _ _ _ _ => My.zq3 (fun _ _ _ => rfl)) ?_ ?_ ?_ ?_ ?_, My.mmk (fun _ _ _ _ _ _ => My.zq2 (fun _ _ => rfl)) ?_ ?_ ?_ ?_ ?_, My.mmk (fun _ _ _ _ _ _ => My.zq3 (fun _ _ _ => rfl)) ?_ ?_ ?_ ?_ ?_, My.mmk (fun _ _ _ _ _ _ => My.zq2 (fun _ _ => rfl)) ?_ ?_ ?_ ?_ ?_, My.mmk (fun _ _ _ _ _ _ => My.zq2 (fun _ _ => rfl)) ?_ ?_ ?_ ?_ ?_, My.mmk (fun _ _ _ _ _ _ => My.zq2 (fun _ _ => rfl)) ?_ ?_ ?_ ?_ ?_, My.dmk KX G (fun _ _ _ _ _ _ => My.zq3 (fun _ _ _ => rfl)) ?_ ?_ ?_ ?_, My.dmk KX G (fun _ _ _ _ _ _ => My.zq3 (fun _ _ _ => rfl)) ?_ ?_ ?_ ?_, My.mmk (fun _ _ _ _ _ _ => My.zq3 (fun _ _ _ => rfl)) ?_ ?_ ?_ ?_ ?_, My.mmk (fun _ _ _ _ _ _ => My.zq3 (fun _ _ _ => rfl)) ?_ ?_ ?_ ?_ ?_, My.mmk (fun _ _ _ _ _ _ => My.zq1 (fun _ => rfl)) ?_ ?_ ?_ ?_ ?_, My.mmk (fun _ _ _ _ _ _ => My.zq2 (fun _ _ => rfl)) ?_ ?_ ?_ ?_ ?_, My.mmk (fun _ _ _ _ _ _ => My.zq2 (fun _ _ => rfl)) ?_ ?_ ?_ ?_ ?_, My.mmk (fun _ _ _ _ _ _ => My.zq2 (fun _ _ => rfl)) ?_ ?_ ?_ ?_ ?_, My.mmk (fun _ _ _ _ _ _ => My.zq2 (fun _ _ => rfl)) ?_ ?_ ?_ ?_ ?_, My.dmk KX G (fun _ _ _ _ _ _ => My.zq2 (fun _ _ => rfl)) ?_ ?_ ?_ ?_, My.dmk KX G (fun _ _ _ _ _ _ => My.zq4 (fun _ _ _ _ => rfl)) ?_ ?_ ?_ ?_, My.mmk (fun _ _ _ _ _ _ => My.zq3 (fun _ _ _ => rfl)) ?_ ?_ ?_ ?_ ?_, My.mmk (fun _ _ _ _ _ _ => My.zq2 (fun _ _ => rfl)) ?_ ?_ ?_ ?_ ?_, My.mmk (fun _ _ _ _ _ _ => My.zq1 (fun _ => rfl)) ?_ ?_ ?_ ?_ ?_, My.dmk KX G (fun _ _ _ _ _ _ => My.zq1 (fun _ => rfl)) ?_ ?_ ?_ ?_, My.mmk (fun _ _ _ _ _ _ => My.zq1 (fun _ => rfl)) ?_ ?_ ?_ ?_ ?_, My.mmk (fun _ _ _ _ _ _ => My.zq1 (fun _ => rfl)) ?_ ?_ ?_ ?_ ?_, My.dmk KX G (fun _ _ _ _ _ _ => My.zq4 (fun _ _ _ _ => rfl)) ?_ ?_ ?_ ?_, My.mmk (fun _ _ _ _ _ _ => My.zq3 (fun _ _ _ => rfl)) ?_ ?_ ?_ ?_ ?_, My.mmk (fun _ _ _ _ _ _ => My.zq2 (fun _ _ => rfl)) ?_ ?_ ?_ ?_ ?_, My.mmk (fun _ _ _ _ _ _ => My.zq3 (fun _ _ _ => rfl)) ?_ ?_ ?_ ?_ ?_, My.mmk (fun _ _ _ _ _ _ => My.zq3 (fun _ _ _ => rfl)) ?_ ?_ ?_ ?_ ?_, My.mmk (fun _ _ _ _ _ _ => My.zq2 (fun _ _ => rfl)) ?_ ?_ ?_ ?_ ?_, My.dmk KX G (fun _ _ _ _ _ _ => My.zq1 (fun _ => rfl)) ?_ ?_ ?_ ?_, ⟨PySem.W.mg_of KX G ?_, ⟨?_, ?_, ?_, ?_⟩, ⟨?_, ?_, ?_, ?_⟩⟩, ?_, ?_, ?_, ?_, ?_, ?_, ?_, ?_, ?_, ?_, ?_, ?_, ⟨PySem.W.mg_of KX G ?_, ⟨?_, ?_, ?_, ?_⟩, ⟨?_, ?_, ?_, ?_⟩⟩, ?_, ?_, ?_, ?_, ?_, ?_, ?_, ⟨PySem.W.mg_of KX G ?_, ⟨?_, ?_, ?_, ?_⟩, ⟨?_, ?_, ?_, ?_⟩⟩, ?_, ?_, ?_, ?_⟩ ?_ ?_ ?_ ?_ ?_ ?_ ?anf ?_ ?_ ?_ ?_ ?_ ?_ ?_ ?_ ?_ ?_ ?_ ?_ ?_ ?_ ?_ ?_ ?_ ?JD
    any_goals first | k_is | (dsimp only[L2.bV]; k_is)
    any_goals first | k_is | (dsimp only[L2.bV]; k_is)
    (case anf => kernel_rfl)
    (case JD => decide)
