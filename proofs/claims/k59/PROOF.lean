import PyProof.Rows.All
import Wide.All
import OpenK.AllK
import Wide.FinOn
import Lean
import PyProof.EqAt
import PyProof.EqKinds
import PyProof.TupleCall
import PyProof.P3Eq
import PyProof.NeData
import PyProof.FitsBits
import PyProof.ZipIter
import PyProof.TupleIter
import KE.KRevIter
import PyProof.TupleOfGen
import PyProof.ListRange
import KE.KIsAll
import PyProof.ExcArgsOwn
import OpenK.KDescr
import PyProof.StationsW
import PyProof.ExcBaseAll.ValueError
import OpenK.KOwn
import PyProof.RulesAs
import PyProof.RulesDel
import PyProof.Rows.SortWalk
import PyProof.CompUse
import KE.KDictSum
import PyProof.WalkInts
import KE.KSortTup
import PyProof.Rows.TupDisplay
import KE.KIntText
import PyProof.JoinWalk
import PyProof.ExcInit
import PyProof.ExcClass2
import PySem.Challenge.RW_pebbletoll_k59_texts_refused
set_option Elab.async false
set_option linter.all false
set_option maxRecDepth 100000
namespace Hd
open PySem
def top (i:Nat):Stmt:=PySem.Challenge.pw_pebbletoll_k59_texts_refused.main.body.getD i (.Pass ⟨0,0,0,0⟩)
def inC (s:Stmt) (j:Nat):Stmt:=match s with
 | .ClassDef _ _ _ b _ _ _ _ _ _ _=>b.getD j (.Pass ⟨0,0,0,0⟩)
 | _=>.Pass ⟨0,0,0,0⟩
def kA (s:Stmt):Arguments:=match s with
 | .FunctionDef _ a _ _ _ _ _ _ _ _=>a
 | _=>{ posonlyargs:=[],args:=[],vararg:=none,kwonlyargs:=[],kw_defaults:=[],kwarg:=none,defaults:=[] }
def kB (s:Stmt):List Stmt:=match s with
 | .FunctionDef _ _ b _ _ _ _ _ _ _=>b
 | _=>[]
def kS (s:Stmt):Scope:=match s with
 | .FunctionDef _ _ _ _ _ _ sc _ _ _=>sc
 | _=>{ kind:=.function,names:=[],isGenerator:=false,isCoroutine:=false }
open PySem.W PySem.Calls PyProof.Rows
def en (P:Params) (s:Str) (t:Tok) (v:Value):DictEntry:=.mk (PyData.keyHash P s) (.str s t) v
def cO (a b:Str) (t1 t2 t3:Tok) (i1 i2 i3 i4 i5:Int) (r1:Value) (b1:Bool) (i6:Int) (r2 v1 v2 v3 r3:Value) (i7 i8:Int) (t4:Tok):Obj:=.mk (.type "code") none (.fields #[.str a t1,.str b t2,.str "/claim/cut.py" t3,.int i1 0,.int i2 0,.int i3 0,.int i4 0,.int i5 0,r1,.bool b1,.int i6 0,r2,v1,v2,v3,r3,.int i7 0,.int i8 0,.str "/claim/cut.py" t4]) #[]
def fR (a b:Str) (s:Stmt):Obj:=.mk .none none (.func (.mk a b (kA s) (.stmts (kB s)) (kS s) 0 [] .none .none .none .none none .none .none 0)) #[]
def fO (a b:Str) (s:Stmt) (pm cd:Value):Obj:=.mk (.type "function") none (.func (PySem.W.fnOf a b (kA s) (kB s) (kS s) .none .none .none pm none cd .none)) #[]
def tO (xs:Array Value):Obj:=.mk (.type "tuple") none (.seq xs 0) #[]
def x0:Obj:=(tO #[])
def x1:Obj:=(.mk .none none (.fields #[]) #[])
def x2:Obj:=(cO "<module>" "<module>" 182 183 184 1 0 0 0 0 (.ref 11) false 181 (.ref 12) .none .none .none .none 185 1 186)
def x3:Obj:=(.mk (.type "frame") none .plain #[(some (.ref 13)),(some (.ref 3)),(some (.ref 3)),none,(some (.str "__main__" 164)),none,(some (.ref 0))])
noncomputable def ha (P:Params):Heap:=.mk (.mk (boot_o_0 P::boot_o_1 P::boot_o_2 P::boot_o_3 P::boot_o_4 P::boot_o_5 P::boot_o_6 P::boot_o_7 P::boot_o_8 P::boot_o_9 P::boot_o_10 P::x0::x1::x2::x3::[])) (.mk [] [] [] 0 [] [] false #[] [] 0 false false false 0 [2000,10,10] false 0 true [] [] 0 false)
noncomputable def hb (P:Params):Heap:=.mk (.mk (boot_o_0 P::boot_o_1 P::boot_o_2 P::boot_o_3 P::boot_o_4 P::boot_o_5 P::boot_o_6 P::boot_o_7 P::boot_o_8 P::boot_o_9 P::boot_o_10 P::x0::x1::x2::x3::[])) (.mk [] [] [] 0 [] [] false #[] [] 0 false false false 0 [2000,10,10] false 0 true [] [] 0 false)
abbrev st0:List Stmt:=[top 0,top 1,top 2,top 3,top 4,top 5,top 6,top 7,top 8,top 9,top 10,top 11,top 12,top 13,top 14,top 15,top 16,top 17,top 18,top 19,top 20,top 21,top 22,top 23,top 24,top 25,top 26,top 27]
abbrev st1:List Stmt:=[top 28,top 29,top 30,top 31,top 32,top 33,top 34,top 35,top 36,top 37,top 38]
abbrev bb:List Stmt:=st0++(st1++([]))
def env:Env:={ scope:=PySem.Challenge.pw_pebbletoll_k59_texts_refused.main.scope,locals:=mainNs,globals:=mainNs,cells:=[],code:=(.ref 13),frame:=some 14 }
abbrev cE:Code:=.body bb env
theorem FC (w:World) (os:OsState):topGo treeTable PySem.Challenge.pw_pebbletoll_k59_texts_refused w 11 (some (.ref 6)) 12 (Shared.mk (boot_heap w.params) (.mk []) boot_drawn boot_toks os) (topStub PySem.Challenge.pw_pebbletoll_k59_texts_refused)=some ((Shared.mk (ha w.params) (.mk []) (.mk 0 0 0 0) 187 os),Thread.mk (denote treeTable cE) cE (.mk 0 0 0 0) [topFrame (.mk 0 0 0 0)]):=by kernel_rfl
theorem FH (w:World) (os:OsState):segRun treeTable PySem.Challenge.pw_pebbletoll_k59_texts_refused w 11 (some (.ref 6)) 1 1 (Shared.mk (ha w.params) (.mk []) (.mk 0 0 0 0) 187 os) (blockOf bb env cE (.mk 0 0 0 0) [topFrame (.mk 0 0 0 0)])=some (.next,(Shared.mk (hb w.params) (.mk []) (.mk 0 0 0 0) 187 os),cE,(.mk 0 0 0 0)):=by kernel_rfl
def x4 (P:Params):Obj:=(.mk (.type "dict") none (.dict #[(en P "__name__" 165 (.str "pebbletoll.texts" 395)),(en P "__doc__" 166 .none),(en P "__package__" 167 .none),(en P "__loader__" 168 (.builtin "__main__.__loader__#opaque")),(en P "__spec__" 169 .none),(en P "__annotations__" 170 (.ref 6)),(en P "__builtins__" 171 (.ref 4)),(en P "__file__" 173 (.str "/claim/cut.py" 172)),(en P "__cached__" 174 .none),(en P "TollError" 206 (.ref 24)),(en P "BadWeb" 222 (.ref 37)),(en P "NoPlace" 238 (.ref 49)),(en P "BadLaying" 254 (.ref 61)),(en P "BadStep" 279 (.ref 80)),(en P "BadText" 304 (.ref 99)),(en P "MOST_PLACES" 308 (.int 24 307)),(en P "LEAST_TOLL" 310 (.int 2 309)),(en P "MOST_TOLL" 312 (.int 1000000 311)),(en P "Web" 340 (.ref 116)),(en P "is_place" 348 (.ref 127)),(en P "check_counts" 356 (.ref 134)),(en P "check_ends" 364 (.ref 141)),(en P "check_tolls" 372 (.ref 148)),(en P "check_joined" 384 (.ref 155)),(en P "other_ends" 394 (.ref 162)),(en P "FIGURES" 398 (.str "0123456789" 397)),(en P "MOST_FIGURES" 400 (.int 60 399)),(en P "read_numbers" 406 (.ref 167)),(en P "read_steps" 412 (.ref 172)),(en P "read_web" 418 (.ref 177)),(en P "read_row" 429 (.ref 184)),(en P "read_words" 435 (.ref 189)),(en P "read_number" 443 (.ref 196)),(en P "is_number" 449 (.ref 201))] 34) #[])
def x5:Obj:=(.mk .none none (.fields #[(.int 2 0),(.int 0 0),(.ref 20),(.int 4 0),(.int 0 0),(.ref 33),(.int 6 0),(.int 0 0),(.ref 45),(.int 8 0),(.int 0 0),(.ref 57),(.int 10 0),(.int 0 0),(.ref 69),(.int 15 0),(.int 0 0),(.ref 88),(.int 24 0),(.int 0 0),(.ref 107),(.int 35 0),(.int 0 0),(.ref 126),(.int 37 0),(.int 0 0),(.ref 133),(.int 42 0),(.int 0 0),(.ref 140),(.int 47 0),(.int 0 0),(.ref 147),(.int 51 0),(.int 0 0),(.ref 154),(.int 62 0),(.int 0 0),(.ref 161),(.int 73 0),(.int 0 0),(.ref 166),(.int 80 0),(.int 0 0),(.ref 171),(.int 87 0),(.int 0 0),(.ref 176),(.int 94 0),(.int 0 0),(.ref 183),(.int 101 0),(.int 0 0),(.ref 188),(.int 105 0),(.int 0 0),(.ref 195),(.int 109 0),(.int 0 0),(.ref 200)]) #[])
def x6:Obj:=(tO #[(.type "ValueError")])
def x7:Obj:=(.mk (.type "builtin_function_or_method") none (.fields #[(.builtin "type.__prepare__"),(.type "type")]) #[])
def x8 (P:Params):Obj:=(.mk (.type "dict") none (.dict #[(en P "__module__" 196 (.str "pebbletoll.errors" 187)),(en P "__qualname__" 198 (.str "TollError" 197)),(en P "__firstlineno__" 200 (.int 2 199)),(en P "__static_attributes__" 201 (.ref 22))] 4) #[])
def x9:Obj:=(cO "TollError" "TollError" 191 192 193 2 0 0 0 0 (.ref 18) false 181 (.ref 19) .none .none .none .none 194 2 195)
def x10:Obj:=(.mk (.type "frame") none .plain #[(some (.ref 20)),(some (.ref 3)),(some (.ref 17)),none,(some (.str "pebbletoll.errors" 187)),none,(some (.ref 0))])
def x11 (P:Params):Obj:=(.mk (.type "dict") none (.dict #[(en P "__module__" 196 (.str "pebbletoll.errors" 187)),(en P "__firstlineno__" 200 (.int 2 199)),(en P "__static_attributes__" 201 (.ref 22)),(en P "__weakref__" 203 (.ref 25)),(en P "__doc__" 204 .none)] 3) #[])
def x12:Obj:=(.mk (.type "type") none (.cls (.mk "TollError" [(.type "ValueError")] [(.ref 24),(.type "ValueError"),(.type "Exception"),(.type "BaseException"),(.type "object")] 23 "TollError" true [] [(.ref 37),(.ref 49),(.ref 61),(.ref 80),(.ref 99)] false none false)) #[(some (.ref 15)),none,(some (.str "TollError" 189)),(some (.str "TollError" 197)),(some (.builtin "ValueError.__new__")),(some (.bool true))])
def x13:Obj:=(.mk (.type "getset_descriptor") none (.fields #[(.str "__weakref__" 202),(.ref 24),(.builtin "ExceptionGroup.__weakref__"),.none]) #[])
def x14:Obj:=(.mk (.type "super") none (.fields #[(.ref 24),(.ref 24),(.ref 24)]) #[])
def x15:Obj:=(.mk (.type "builtin_function_or_method") none (.fields #[(.builtin "object.__init_subclass__"),(.ref 24)]) #[])
def x16:Obj:=(tO #[(.ref 24)])
def x17 (P:Params):Obj:=(.mk (.type "dict") none (.dict #[(en P "__module__" 214 (.str "pebbletoll.errors" 187)),(en P "__qualname__" 216 (.str "BadWeb" 215)),(en P "__firstlineno__" 218 (.int 4 217)),(en P "__static_attributes__" 219 (.ref 35))] 4) #[])
def x18:Obj:=(cO "BadWeb" "BadWeb" 209 210 211 4 0 0 0 0 (.ref 31) false 181 (.ref 32) .none .none .none .none 212 4 213)
def x19:Obj:=(.mk (.type "frame") none .plain #[(some (.ref 33)),(some (.ref 3)),(some (.ref 30)),none,(some (.str "pebbletoll.errors" 187)),none,(some (.ref 0))])
def x20 (P:Params):Obj:=(.mk (.type "dict") none (.dict #[(en P "__module__" 214 (.str "pebbletoll.errors" 187)),(en P "__firstlineno__" 218 (.int 4 217)),(en P "__static_attributes__" 219 (.ref 35)),(en P "__doc__" 220 .none)] 2) #[])
def x21:Obj:=(.mk (.type "type") none (.cls (.mk "BadWeb" [(.ref 24)] [(.ref 37),(.ref 24),(.type "ValueError"),(.type "Exception"),(.type "BaseException"),(.type "object")] 36 "BadWeb" true [] [] false none false)) #[(some (.ref 28)),none,(some (.str "BadWeb" 207)),(some (.str "BadWeb" 215)),(some (.builtin "ValueError.__new__")),(some (.bool true))])
def x22:Obj:=(.mk (.type "super") none (.fields #[(.ref 37),(.ref 37),(.ref 37)]) #[])
def x23:Obj:=(.mk (.type "builtin_function_or_method") none (.fields #[(.builtin "object.__init_subclass__"),(.ref 37)]) #[])
def x24 (P:Params):Obj:=(.mk (.type "dict") none (.dict #[(en P "__module__" 230 (.str "pebbletoll.errors" 187)),(en P "__qualname__" 232 (.str "NoPlace" 231)),(en P "__firstlineno__" 234 (.int 6 233)),(en P "__static_attributes__" 235 (.ref 47))] 4) #[])
def x25:Obj:=(cO "NoPlace" "NoPlace" 225 226 227 6 0 0 0 0 (.ref 43) false 181 (.ref 44) .none .none .none .none 228 6 229)
def x26:Obj:=(.mk (.type "frame") none .plain #[(some (.ref 45)),(some (.ref 3)),(some (.ref 42)),none,(some (.str "pebbletoll.errors" 187)),none,(some (.ref 0))])
def x27 (P:Params):Obj:=(.mk (.type "dict") none (.dict #[(en P "__module__" 230 (.str "pebbletoll.errors" 187)),(en P "__firstlineno__" 234 (.int 6 233)),(en P "__static_attributes__" 235 (.ref 47)),(en P "__doc__" 236 .none)] 2) #[])
def x28:Obj:=(.mk (.type "type") none (.cls (.mk "NoPlace" [(.ref 24)] [(.ref 49),(.ref 24),(.type "ValueError"),(.type "Exception"),(.type "BaseException"),(.type "object")] 48 "NoPlace" true [] [] false none false)) #[(some (.ref 40)),none,(some (.str "NoPlace" 223)),(some (.str "NoPlace" 231)),(some (.builtin "ValueError.__new__")),(some (.bool true))])
def x29:Obj:=(.mk (.type "super") none (.fields #[(.ref 49),(.ref 49),(.ref 49)]) #[])
def x30:Obj:=(.mk (.type "builtin_function_or_method") none (.fields #[(.builtin "object.__init_subclass__"),(.ref 49)]) #[])
def x31 (P:Params):Obj:=(.mk (.type "dict") none (.dict #[(en P "__module__" 246 (.str "pebbletoll.errors" 187)),(en P "__qualname__" 248 (.str "BadLaying" 247)),(en P "__firstlineno__" 250 (.int 8 249)),(en P "__static_attributes__" 251 (.ref 59))] 4) #[])
def x32:Obj:=(cO "BadLaying" "BadLaying" 241 242 243 8 0 0 0 0 (.ref 55) false 181 (.ref 56) .none .none .none .none 244 8 245)
def x33:Obj:=(.mk (.type "frame") none .plain #[(some (.ref 57)),(some (.ref 3)),(some (.ref 54)),none,(some (.str "pebbletoll.errors" 187)),none,(some (.ref 0))])
def x34 (P:Params):Obj:=(.mk (.type "dict") none (.dict #[(en P "__module__" 246 (.str "pebbletoll.errors" 187)),(en P "__firstlineno__" 250 (.int 8 249)),(en P "__static_attributes__" 251 (.ref 59)),(en P "__doc__" 252 .none)] 2) #[])
def x35:Obj:=(.mk (.type "type") none (.cls (.mk "BadLaying" [(.ref 24)] [(.ref 61),(.ref 24),(.type "ValueError"),(.type "Exception"),(.type "BaseException"),(.type "object")] 60 "BadLaying" true [] [] false none false)) #[(some (.ref 52)),none,(some (.str "BadLaying" 239)),(some (.str "BadLaying" 247)),(some (.builtin "ValueError.__new__")),(some (.bool true))])
def x36:Obj:=(.mk (.type "super") none (.fields #[(.ref 61),(.ref 61),(.ref 61)]) #[])
def x37:Obj:=(.mk (.type "builtin_function_or_method") none (.fields #[(.builtin "object.__init_subclass__"),(.ref 61)]) #[])
def x38 (P:Params):Obj:=(.mk (.type "dict") none (.dict #[(en P "__module__" 262 (.str "pebbletoll.errors" 187)),(en P "__qualname__" 264 (.str "BadStep" 263)),(en P "__firstlineno__" 266 (.int 10 265)),(en P "__init__" 274 (.ref 77)),(en P "__static_attributes__" 276 (.ref 78))] 5) #[])
def x39:Obj:=(.mk .none none (.fields #[(.int 12 0),(.int 4 0),(.ref 76)]) #[])
def x40:Obj:=(cO "BadStep" "BadStep" 257 258 259 10 0 0 0 0 (.ref 67) false 181 (.ref 68) .none .none .none .none 260 10 261)
def x41:Obj:=(.mk (.type "frame") none .plain #[(some (.ref 69)),(some (.ref 3)),(some (.ref 66)),none,(some (.str "pebbletoll.errors" 187)),none,(some (.ref 0))])
def x42:Obj:=(tO #[(.str "self" 270),(.str "at" 271)])
def x43:Obj:=(fR "__init__" "BadStep.__init__" (inC (top 5) 0))
def x44:Obj:=(cO "__init__" "BadStep.__init__" 267 268 269 12 2 0 0 3 (.ref 71) true 181 (.ref 72) .none (.ref 73) (.ref 74) (.ref 75) 272 12 273)
def x45:Obj:=(fO "__init__" "BadStep.__init__" (inC (top 5) 0) (.str "pebbletoll.errors" 187) (.ref 76))
def x46:Obj:=(tO #[(.str "at" 275)])
def x47 (P:Params):Obj:=(.mk (.type "dict") none (.dict #[(en P "__module__" 262 (.str "pebbletoll.errors" 187)),(en P "__firstlineno__" 266 (.int 10 265)),(en P "__init__" 274 (.ref 77)),(en P "__static_attributes__" 276 (.ref 78)),(en P "__doc__" 277 .none)] 2) #[])
def x48:Obj:=(.mk (.type "type") none (.cls (.mk "BadStep" [(.ref 24)] [(.ref 80),(.ref 24),(.type "ValueError"),(.type "Exception"),(.type "BaseException"),(.type "object")] 79 "BadStep" true [] [] false none false)) #[(some (.ref 64)),none,(some (.str "BadStep" 255)),(some (.str "BadStep" 263)),(some (.builtin "ValueError.__new__")),(some (.bool true))])
def x49:Obj:=(.mk (.type "super") none (.fields #[(.ref 80),(.ref 80),(.ref 80)]) #[])
def x50:Obj:=(.mk (.type "builtin_function_or_method") none (.fields #[(.builtin "object.__init_subclass__"),(.ref 80)]) #[])
def x51 (P:Params):Obj:=(.mk (.type "dict") none (.dict #[(en P "__module__" 287 (.str "pebbletoll.errors" 187)),(en P "__qualname__" 289 (.str "BadText" 288)),(en P "__firstlineno__" 291 (.int 15 290)),(en P "__init__" 299 (.ref 96)),(en P "__static_attributes__" 301 (.ref 97))] 5) #[])
def x52:Obj:=(.mk .none none (.fields #[(.int 17 0),(.int 4 0),(.ref 95)]) #[])
def x53:Obj:=(cO "BadText" "BadText" 282 283 284 15 0 0 0 0 (.ref 86) false 181 (.ref 87) .none .none .none .none 285 15 286)
def x54:Obj:=(.mk (.type "frame") none .plain #[(some (.ref 88)),(some (.ref 3)),(some (.ref 85)),none,(some (.str "pebbletoll.errors" 187)),none,(some (.ref 0))])
def x55:Obj:=(tO #[(.str "self" 295),(.str "at" 296)])
def x56:Obj:=(fR "__init__" "BadText.__init__" (inC (top 6) 0))
def x57:Obj:=(cO "__init__" "BadText.__init__" 292 293 294 17 2 0 0 3 (.ref 90) true 181 (.ref 91) .none (.ref 92) (.ref 93) (.ref 94) 297 17 298)
def x58:Obj:=(fO "__init__" "BadText.__init__" (inC (top 6) 0) (.str "pebbletoll.errors" 187) (.ref 95))
def x59:Obj:=(tO #[(.str "at" 300)])
def x60 (P:Params):Obj:=(.mk (.type "dict") none (.dict #[(en P "__module__" 287 (.str "pebbletoll.errors" 187)),(en P "__firstlineno__" 291 (.int 15 290)),(en P "__init__" 299 (.ref 96)),(en P "__static_attributes__" 301 (.ref 97)),(en P "__doc__" 302 .none)] 2) #[])
def x61:Obj:=(.mk (.type "type") none (.cls (.mk "BadText" [(.ref 24)] [(.ref 99),(.ref 24),(.type "ValueError"),(.type "Exception"),(.type "BaseException"),(.type "object")] 98 "BadText" true [] [] false none false)) #[(some (.ref 83)),none,(some (.str "BadText" 280)),(some (.str "BadText" 288)),(some (.builtin "ValueError.__new__")),(some (.bool true))])
def x62:Obj:=(.mk (.type "super") none (.fields #[(.ref 99),(.ref 99),(.ref 99)]) #[])
def x63:Obj:=(.mk (.type "builtin_function_or_method") none (.fields #[(.builtin "object.__init_subclass__"),(.ref 99)]) #[])
def x64 (P:Params):Obj:=(.mk (.type "dict") none (.dict #[(en P "__module__" 320 (.str "pebbletoll.webs" 305)),(en P "__qualname__" 322 (.str "Web" 321)),(en P "__firstlineno__" 324 (.int 24 323)),(en P "__init__" 330 (.ref 113)),(en P "__static_attributes__" 333 (.ref 114))] 5) #[])
def x65:Obj:=(.mk .none none (.fields #[(.int 26 0),(.int 4 0),(.ref 112)]) #[])
def x66:Obj:=(cO "Web" "Web" 315 316 317 24 0 0 0 0 (.ref 105) false 181 (.ref 106) .none .none .none .none 318 24 319)
def x67:Obj:=(.mk (.type "frame") none .plain #[(some (.ref 107)),(some (.ref 3)),(some (.ref 104)),none,(some (.str "pebbletoll.webs" 305)),none,(some (.ref 0))])
def x68:Obj:=(fR "__init__" "Web.__init__" (inC (top 11) 0))
def x69:Obj:=(cO "__init__" "Web.__init__" 325 326 327 26 3 0 0 3 (.ref 109) true 181 (.ref 110) .none .none .none (.ref 111) 328 26 329)
def x70:Obj:=(fO "__init__" "Web.__init__" (inC (top 11) 0) (.str "pebbletoll.webs" 305) (.ref 112))
def x71:Obj:=(tO #[(.str "many" 331),(.str "roads" 332)])
def x72 (P:Params):Obj:=(.mk (.type "dict") none (.dict #[(en P "__module__" 320 (.str "pebbletoll.webs" 305)),(en P "__firstlineno__" 324 (.int 24 323)),(en P "__init__" 330 (.ref 113)),(en P "__static_attributes__" 333 (.ref 114)),(en P "__dict__" 335 (.ref 117)),(en P "__weakref__" 337 (.ref 118)),(en P "__doc__" 338 .none)] 4) #[])
def x73:Obj:=(.mk (.type "type") none (.cls (.mk "Web" [(.type "object")] [(.ref 116),(.type "object")] 115 "Web" true [] [] false none false)) #[none,none,(some (.str "Web" 313)),(some (.str "Web" 321)),(some (.builtin "object.__new__")),(some (.bool true))])
def x74:Obj:=(.mk (.type "getset_descriptor") none (.fields #[(.str "__dict__" 334),(.ref 116),(.builtin "function.__dict__"),(.builtin "function.__dict__#set")]) #[])
def x75:Obj:=(.mk (.type "getset_descriptor") none (.fields #[(.str "__weakref__" 336),(.ref 116),(.builtin "ExceptionGroup.__weakref__"),.none]) #[])
def x76:Obj:=(.mk (.type "super") none (.fields #[(.ref 116),(.ref 116),(.ref 116)]) #[])
def x77:Obj:=(.mk (.type "builtin_function_or_method") none (.fields #[(.builtin "object.__init_subclass__"),(.ref 116)]) #[])
def x78:Obj:=(tO #[(.str "many" 344),(.str "number" 345)])
def x79:Obj:=(fR "is_place" "is_place" (top 12))
def x80:Obj:=(cO "is_place" "is_place" 341 342 343 35 2 0 0 3 (.ref 121) true 181 (.ref 122) .none (.ref 123) (.ref 124) (.ref 125) 346 35 347)
def x81:Obj:=(fO "is_place" "is_place" (top 12) (.str "pebbletoll.webs" 305) (.ref 126))
def x82:Obj:=(tO #[(.str "many" 352),(.str "roads" 353)])
def x83:Obj:=(fR "check_counts" "check_counts" (top 13))
def x84:Obj:=(cO "check_counts" "check_counts" 349 350 351 37 2 0 0 3 (.ref 128) true 181 (.ref 129) .none (.ref 130) (.ref 131) (.ref 132) 354 37 355)
def x85:Obj:=(fO "check_counts" "check_counts" (top 13) (.str "pebbletoll.webs" 305) (.ref 133))
def x86:Obj:=(tO #[(.str "many" 360),(.str "road" 361)])
def x87:Obj:=(fR "check_ends" "check_ends" (top 14))
def x88:Obj:=(cO "check_ends" "check_ends" 357 358 359 42 2 0 0 3 (.ref 135) true 181 (.ref 136) .none (.ref 137) (.ref 138) (.ref 139) 362 42 363)
def x89:Obj:=(fO "check_ends" "check_ends" (top 14) (.str "pebbletoll.webs" 305) (.ref 140))
def x90:Obj:=(tO #[(.str "road" 368),(.str "number" 369)])
def x91:Obj:=(fR "check_tolls" "check_tolls" (top 15))
def x92:Obj:=(cO "check_tolls" "check_tolls" 365 366 367 47 1 0 0 3 (.ref 142) true 181 (.ref 143) .none (.ref 144) (.ref 145) (.ref 146) 370 47 371)
def x93:Obj:=(fO "check_tolls" "check_tolls" (top 15) (.str "pebbletoll.webs" 305) (.ref 147))
def x94:Obj:=(tO #[(.str "many" 376),(.str "roads" 377),(.str "reached" 378),(.str "waiting" 379),(.str "place" 380),(.str "end" 381)])
def x95:Obj:=(fR "check_joined" "check_joined" (top 16))
def x96:Obj:=(cO "check_joined" "check_joined" 373 374 375 51 2 0 0 3 (.ref 149) true 181 (.ref 150) .none (.ref 151) (.ref 152) (.ref 153) 382 51 383)
def x97:Obj:=(fO "check_joined" "check_joined" (top 16) (.str "pebbletoll.webs" 305) (.ref 154))
def x98:Obj:=(tO #[(.str "roads" 388),(.str "place" 389),(.str "ends" 390),(.str "road" 391)])
def x99:Obj:=(fR "other_ends" "other_ends" (top 17))
def zy:Obj:=(cO "other_ends" "other_ends" 385 386 387 62 2 0 0 3 (.ref 156) true 181 (.ref 157) .none (.ref 158) (.ref 159) (.ref 160) 392 62 393)
def zj:Obj:=(fO "other_ends" "other_ends" (top 17) (.str "pebbletoll.webs" 305) (.ref 161))
def Ck:Obj:=(fR "read_numbers" "read_numbers" (top 21))
def yz:Obj:=(cO "read_numbers" "read_numbers" 401 402 403 73 1 0 0 3 (.ref 163) true 181 (.ref 164) .none .none .none (.ref 165) 404 73 405)
def zc:Obj:=(fO "read_numbers" "read_numbers" (top 21) (.str "pebbletoll.texts" 395) (.ref 166))
def BR:Obj:=(fR "read_steps" "read_steps" (top 22))
def yW:Obj:=(cO "read_steps" "read_steps" 407 408 409 80 1 0 0 3 (.ref 168) true 181 (.ref 169) .none .none .none (.ref 170) 410 80 411)
def zf:Obj:=(fO "read_steps" "read_steps" (top 22) (.str "pebbletoll.texts" 395) (.ref 171))
def Cg:Obj:=(fR "read_web" "read_web" (top 23))
def yD:Obj:=(cO "read_web" "read_web" 413 414 415 87 1 0 0 3 (.ref 173) true 181 (.ref 174) .none .none .none (.ref 175) 416 87 417)
def yA:Obj:=(fO "read_web" "read_web" (top 23) (.str "pebbletoll.texts" 395) (.ref 176))
def yF:Obj:=(tO #[(.str "rows" 422),(.str "at" 423),(.str "head" 424),(.str "many" 425),(.str "words" 426)])
def B9:Obj:=(fR "read_row" "read_row" (top 24))
def zC:Obj:=(cO "read_row" "read_row" 419 420 421 94 4 0 0 3 (.ref 178) true 181 (.ref 179) .none (.ref 180) (.ref 181) (.ref 182) 427 94 428)
def yG:Obj:=(fO "read_row" "read_row" (top 24) (.str "pebbletoll.texts" 395) (.ref 183))
def BF:Obj:=(fR "read_words" "read_words" (top 25))
def zh:Obj:=(cO "read_words" "read_words" 430 431 432 101 3 0 0 3 (.ref 185) true 181 (.ref 186) .none .none .none (.ref 187) 433 101 434)
def yK:Obj:=(fO "read_words" "read_words" (top 25) (.str "pebbletoll.texts" 395) (.ref 188))
def zi:Obj:=(tO #[(.str "word" 439),(.str "at" 440)])
def Cl:Obj:=(fR "read_number" "read_number" (top 26))
def yH:Obj:=(cO "read_number" "read_number" 436 437 438 105 2 0 0 3 (.ref 190) true 181 (.ref 191) .none (.ref 192) (.ref 193) (.ref 194) 441 105 442)
def yk:Obj:=(fO "read_number" "read_number" (top 26) (.str "pebbletoll.texts" 395) (.ref 195))
def Cm:Obj:=(fR "is_number" "is_number" (top 27))
def yy:Obj:=(cO "is_number" "is_number" 444 445 446 109 1 0 0 3 (.ref 197) true 181 (.ref 198) .none .none .none (.ref 199) 447 109 448)
def yN:Obj:=(fO "is_number" "is_number" (top 27) (.str "pebbletoll.texts" 395) (.ref 200))
noncomputable def h0 (P:Params):Heap:=.mk (.mk (boot_o_0 P::boot_o_1 P::boot_o_2 P::x4 P::boot_o_4 P::boot_o_5 P::boot_o_6 P::boot_o_7 P::boot_o_8 P::boot_o_9 P::boot_o_10 P::x0::x5::x2::x3::x6::x7::x8 P::x0::x1::x9::x10::x0::x11 P::x12::x13::x14::x15::x16::x7::x17 P::x0::x1::x18::x19::x0::x20 P::x21::x22::x23::x16::x7::x24 P::x0::x1::x25::x26::x0::x27 P::x28::x29::x30::x16::x7::x31 P::x0::x1::x32::x33::x0::x34 P::x35::x36::x37::x16::x7::x38 P::x0::x39::x40::x41::x0::x1::x42::x0::x43::x44::x45::x46::x47 P::x48::x49::x50::x16::x7::x51 P::x0::x52::x53::x54::x0::x1::x55::x0::x56::x57::x58::x59::x60 P::x61::x62::x63::x0::x7::x64 P::x0::x65::x66::x67::x0::x1::x68::x69::x70::x71::x72 P::x73::x74::x75::x76::x77::x0::x1::x78::x0::x79::x80::x81::x0::x1::x82::x0::x83::x84::x85::x0::x1::x86::x0::x87::x88::x89::x0::x1::x90::x0::x91::x92::x93::x0::x1::x94::x0::x95::x96::x97::x0::x1::x98::x0::x99::zy::zj::x0::x1::Ck::yz::zc::x0::x1::BR::yW::zf::x0::x1::Cg::yD::yA::x0::x1::yF::x0::B9::zC::yG::x0::x1::BF::zh::yK::x0::x1::zi::x0::Cl::yH::yk::x0::x1::Cm::yy::yN::[])) (.mk [] [] [] 0 [] [] false #[] [] 0 false false false 0 [2000,10,10] false 0 true [] [] 0 false)
theorem FL (w:World) (os:OsState):segRun treeTable PySem.Challenge.pw_pebbletoll_k59_texts_refused w 11 (some (.ref 6)) 1 1986 (Shared.mk (hb w.params) (.mk []) (.mk 0 0 0 0) 187 os) (piecesOf st0 env cE (.mk 0 0 0 0) [topFrame (.mk 0 0 0 0)])=some (.next,(Shared.mk (h0 w.params) (.mk []) (.mk 0 0 0 0) 450 os),cE,(.mk 109 0 112 40)):=by kernel_rfl
def BU (P:Params):Obj:=(.mk (.type "dict") none (.dict #[(en P "__name__" 165 (.str "law_pebbletoll_k59_texts_refused" 458)),(en P "__doc__" 166 .none),(en P "__package__" 167 .none),(en P "__loader__" 168 (.builtin "__main__.__loader__#opaque")),(en P "__spec__" 169 .none),(en P "__annotations__" 170 (.ref 6)),(en P "__builtins__" 171 (.ref 4)),(en P "__file__" 173 (.str "/claim/cut.py" 172)),(en P "__cached__" 174 .none),(en P "TollError" 206 (.ref 24)),(en P "BadWeb" 222 (.ref 37)),(en P "NoPlace" 238 (.ref 49)),(en P "BadLaying" 254 (.ref 61)),(en P "BadStep" 279 (.ref 80)),(en P "BadText" 304 (.ref 99)),(en P "MOST_PLACES" 308 (.int 24 307)),(en P "LEAST_TOLL" 310 (.int 2 309)),(en P "MOST_TOLL" 312 (.int 1000000 311)),(en P "Web" 340 (.ref 116)),(en P "is_place" 348 (.ref 127)),(en P "check_counts" 356 (.ref 134)),(en P "check_ends" 364 (.ref 141)),(en P "check_tolls" 372 (.ref 148)),(en P "check_joined" 384 (.ref 155)),(en P "other_ends" 394 (.ref 162)),(en P "FIGURES" 398 (.str "0123456789" 397)),(en P "MOST_FIGURES" 400 (.int 60 399)),(en P "read_numbers" 406 (.ref 167)),(en P "read_steps" 412 (.ref 172)),(en P "read_web" 418 (.ref 177)),(en P "read_row" 429 (.ref 184)),(en P "read_words" 435 (.ref 189)),(en P "read_number" 443 (.ref 196)),(en P "is_number" 449 (.ref 201)),(en P "check_end" 457 (.ref 208)),(en P "_law_number_in" 468 (.ref 215)),(en P "_law_bad" 479 (.ref 222)),(en P "_law_odd_word" 491 (.ref 229)),(en P "_law_numbers_due" 497 (.ref 234)),(en P "_law_steps_due" 503 (.ref 239)),(en P "_law_row" 514 (.ref 246)),(en P "_law_changed" 524 (.ref 253)),(en P "_law_right" 536 (.ref 260)),(en P "law" 548 (.ref 267))] 44) #[])
def Ei:Obj:=(.mk .none none (.fields #[(.int 2 0),(.int 0 0),(.ref 20),(.int 4 0),(.int 0 0),(.ref 33),(.int 6 0),(.int 0 0),(.ref 45),(.int 8 0),(.int 0 0),(.ref 57),(.int 10 0),(.int 0 0),(.ref 69),(.int 15 0),(.int 0 0),(.ref 88),(.int 24 0),(.int 0 0),(.ref 107),(.int 35 0),(.int 0 0),(.ref 126),(.int 37 0),(.int 0 0),(.ref 133),(.int 42 0),(.int 0 0),(.ref 140),(.int 47 0),(.int 0 0),(.ref 147),(.int 51 0),(.int 0 0),(.ref 154),(.int 62 0),(.int 0 0),(.ref 161),(.int 73 0),(.int 0 0),(.ref 166),(.int 80 0),(.int 0 0),(.ref 171),(.int 87 0),(.int 0 0),(.ref 176),(.int 94 0),(.int 0 0),(.ref 183),(.int 101 0),(.int 0 0),(.ref 188),(.int 105 0),(.int 0 0),(.ref 195),(.int 109 0),(.int 0 0),(.ref 200),(.int 113 0),(.int 0 0),(.ref 207),(.int 117 0),(.int 0 0),(.ref 214),(.int 126 0),(.int 0 0),(.ref 221),(.int 143 0),(.int 0 0),(.ref 228),(.int 151 0),(.int 0 0),(.ref 233),(.int 158 0),(.int 0 0),(.ref 238),(.int 171 0),(.int 0 0),(.ref 245),(.int 181 0),(.int 0 0),(.ref 252),(.int 193 0),(.int 0 0),(.ref 259),(.int 208 0),(.int 0 0),(.ref 266)]) #[])
def Ci:Obj:=(tO #[(.str "rows" 453),(.str "last" 454)])
def EO:Obj:=(fR "check_end" "check_end" (top 28))
def Cj:Obj:=(cO "check_end" "check_end" 450 451 452 113 2 0 0 3 (.ref 202) true 181 (.ref 203) .none (.ref 204) (.ref 205) (.ref 206) 455 113 456)
def Be:Obj:=(fO "check_end" "check_end" (top 28) (.str "pebbletoll.texts" 395) (.ref 207))
def CK:Obj:=(tO #[(.str "word" 463),(.str "number" 464),(.str "sign" 465)])
def Fe:Obj:=(fR "_law_number_in" "_law_number_in" (top 30))
def B1:Obj:=(cO "_law_number_in" "_law_number_in" 460 461 462 117 1 0 0 3 (.ref 209) true 181 (.ref 210) .none (.ref 211) (.ref 212) (.ref 213) 466 117 467)
def CH:Obj:=(fO "_law_number_in" "_law_number_in" (top 30) (.str "law_pebbletoll_k59_texts_refused" 458) (.ref 214))
def CM:Obj:=(tO #[(.str "pick" 472),(.str "text" 473),(.str "row" 474),(.str "e" 475),(.str "others" 476)])
def E3:Obj:=(fR "_law_bad" "_law_bad" (top 31))
def BC:Obj:=(cO "_law_bad" "_law_bad" 469 470 471 126 2 0 0 3 (.ref 216) true 181 (.ref 217) .none (.ref 218) (.ref 219) (.ref 220) 477 126 478)
def Bf:Obj:=(fO "_law_bad" "_law_bad" (top 31) (.str "law_pebbletoll_k59_texts_refused" 458) (.ref 221))
def CU:Obj:=(tO #[(.str "cell" 483),(.str "word" 484),(.str "at" 485),(.str "signs" 486),(.str "sign" 487),(.str "some" 488)])
def D9:Obj:=(fR "_law_odd_word" "_law_odd_word" (top 32))
def Ce:Obj:=(cO "_law_odd_word" "_law_odd_word" 480 481 482 143 2 0 0 3 (.ref 223) true 181 (.ref 224) .none (.ref 225) (.ref 226) (.ref 227) 489 143 490)
def Cp:Obj:=(fO "_law_odd_word" "_law_odd_word" (top 32) (.str "law_pebbletoll_k59_texts_refused" 458) (.ref 228))
def Fd:Obj:=(fR "_law_numbers_due" "_law_numbers_due" (top 33))
def Bn:Obj:=(cO "_law_numbers_due" "_law_numbers_due" 492 493 494 151 1 0 0 3 (.ref 230) true 181 (.ref 231) .none .none .none (.ref 232) 495 151 496)
def CJ:Obj:=(fO "_law_numbers_due" "_law_numbers_due" (top 33) (.str "law_pebbletoll_k59_texts_refused" 458) (.ref 233))
def Er:Obj:=(fR "_law_steps_due" "_law_steps_due" (top 34))
def Ca:Obj:=(cO "_law_steps_due" "_law_steps_due" 498 499 500 158 1 0 0 3 (.ref 235) true 181 (.ref 236) .none .none .none (.ref 237) 501 158 502)
def CO:Obj:=(fO "_law_steps_due" "_law_steps_due" (top 34) (.str "law_pebbletoll_k59_texts_refused" 458) (.ref 238))
def Bu:Obj:=(tO #[(.str "pick" 507),(.str "cell" 508),(.str "words" 509),(.str "k" 510),(.str "number" 511)])
def En:Obj:=(fR "_law_row" "_law_row" (top 35))
def Cd:Obj:=(cO "_law_row" "_law_row" 504 505 506 171 2 0 0 3 (.ref 240) true 181 (.ref 241) .none (.ref 242) (.ref 243) (.ref 244) 512 171 513)
def Cw:Obj:=(fO "_law_row" "_law_row" (top 35) (.str "law_pebbletoll_k59_texts_refused" 458) (.ref 245))
def CC:Obj:=(tO #[(.str "words" 518),(.str "cell" 519),(.str "told" 520),(.str "at" 521)])
def E1:Obj:=(fR "_law_changed" "_law_changed" (top 36))
def Bh:Obj:=(cO "_law_changed" "_law_changed" 515 516 517 181 2 0 0 3 (.ref 247) true 181 (.ref 248) .none (.ref 249) (.ref 250) (.ref 251) 522 181 523)
def Bs:Obj:=(fO "_law_changed" "_law_changed" (top 36) (.str "law_pebbletoll_k59_texts_refused" 458) (.ref 252))
def Cb:Obj:=(tO #[(.str "pick" 528),(.str "row" 529),(.str "behind" 530),(.str "text" 531),(.str "due" 532),(.str "found" 533)])
def Fb:Obj:=(fR "_law_right" "_law_right" (top 37))
def Cz:Obj:=(cO "_law_right" "_law_right" 525 526 527 193 3 0 0 3 (.ref 254) true 181 (.ref 255) .none (.ref 256) (.ref 257) (.ref 258) 534 193 535)
def Cq:Obj:=(fO "_law_right" "_law_right" (top 37) (.str "law_pebbletoll_k59_texts_refused" 458) (.ref 259))
def Bw:Obj:=(tO #[(.str "script" 540),(.str "cell" 541),(.str "pick" 542),(.str "words" 543),(.str "row" 544),(.str "behind" 545)])
def ET:Obj:=(fR "law" "law" (top 38))
def Bq:Obj:=(cO "law" "law" 537 538 539 208 1 0 0 3 (.ref 261) true 181 (.ref 262) .none (.ref 263) (.ref 264) (.ref 265) 546 208 547)
def CP:Obj:=(fO "law" "law" (top 38) (.str "law_pebbletoll_k59_texts_refused" 458) (.ref 266))
noncomputable def h1 (P:Params):Heap:=.mk (.mk (boot_o_0 P::boot_o_1 P::boot_o_2 P::BU P::boot_o_4 P::boot_o_5 P::boot_o_6 P::boot_o_7 P::boot_o_8 P::boot_o_9 P::boot_o_10 P::x0::Ei::x2::x3::x6::x7::x8 P::x0::x1::x9::x10::x0::x11 P::x12::x13::x14::x15::x16::x7::x17 P::x0::x1::x18::x19::x0::x20 P::x21::x22::x23::x16::x7::x24 P::x0::x1::x25::x26::x0::x27 P::x28::x29::x30::x16::x7::x31 P::x0::x1::x32::x33::x0::x34 P::x35::x36::x37::x16::x7::x38 P::x0::x39::x40::x41::x0::x1::x42::x0::x43::x44::x45::x46::x47 P::x48::x49::x50::x16::x7::x51 P::x0::x52::x53::x54::x0::x1::x55::x0::x56::x57::x58::x59::x60 P::x61::x62::x63::x0::x7::x64 P::x0::x65::x66::x67::x0::x1::x68::x69::x70::x71::x72 P::x73::x74::x75::x76::x77::x0::x1::x78::x0::x79::x80::x81::x0::x1::x82::x0::x83::x84::x85::x0::x1::x86::x0::x87::x88::x89::x0::x1::x90::x0::x91::x92::x93::x0::x1::x94::x0::x95::x96::x97::x0::x1::x98::x0::x99::zy::zj::x0::x1::Ck::yz::zc::x0::x1::BR::yW::zf::x0::x1::Cg::yD::yA::x0::x1::yF::x0::B9::zC::yG::x0::x1::BF::zh::yK::x0::x1::zi::x0::Cl::yH::yk::x0::x1::Cm::yy::yN::x0::x1::Ci::x0::EO::Cj::Be::x0::x1::CK::x0::Fe::B1::CH::x0::x1::CM::x0::E3::BC::Bf::x0::x1::CU::x0::D9::Ce::Cp::x0::x1::Fd::Bn::CJ::x0::x1::Er::Ca::CO::x0::x1::Bu::x0::En::Cd::Cw::x0::x1::CC::x0::E1::Bh::Bs::x0::x1::Cb::x0::Fb::Cz::Cq::x0::x1::Bw::x0::ET::Bq::CP::[])) (.mk [] [] [] 0 [] [] false #[] [] 0 false false false 0 [2000,10,10] false 0 true [] [] 0 false)
theorem Fy (w:World) (os:OsState):segRun treeTable PySem.Challenge.pw_pebbletoll_k59_texts_refused w 11 (some (.ref 6)) 1 323 (Shared.mk (h0 w.params) (.mk []) (.mk 0 0 0 0) 450 os) (piecesOf st1 env cE (.mk 109 0 112 40) [topFrame (.mk 0 0 0 0)])=some (.next,(Shared.mk (h1 w.params) (.mk []) (.mk 0 0 0 0) 549 os),cE,(.mk 208 0 216 15)):=by kernel_rfl
noncomputable def hf (P:Params):Heap:=.mk (.mk (boot_o_0 P::boot_o_1 P::boot_o_2 P::BU P::boot_o_4 P::boot_o_5 P::boot_o_6 P::boot_o_7 P::boot_o_8 P::boot_o_9 P::boot_o_10 P::x0::Ei::x2::x3::x6::x7::x8 P::x0::x1::x9::x10::x0::x11 P::x12::x13::x14::x15::x16::x7::x17 P::x0::x1::x18::x19::x0::x20 P::x21::x22::x23::x16::x7::x24 P::x0::x1::x25::x26::x0::x27 P::x28::x29::x30::x16::x7::x31 P::x0::x1::x32::x33::x0::x34 P::x35::x36::x37::x16::x7::x38 P::x0::x39::x40::x41::x0::x1::x42::x0::x43::x44::x45::x46::x47 P::x48::x49::x50::x16::x7::x51 P::x0::x52::x53::x54::x0::x1::x55::x0::x56::x57::x58::x59::x60 P::x61::x62::x63::x0::x7::x64 P::x0::x65::x66::x67::x0::x1::x68::x69::x70::x71::x72 P::x73::x74::x75::x76::x77::x0::x1::x78::x0::x79::x80::x81::x0::x1::x82::x0::x83::x84::x85::x0::x1::x86::x0::x87::x88::x89::x0::x1::x90::x0::x91::x92::x93::x0::x1::x94::x0::x95::x96::x97::x0::x1::x98::x0::x99::zy::zj::x0::x1::Ck::yz::zc::x0::x1::BR::yW::zf::x0::x1::Cg::yD::yA::x0::x1::yF::x0::B9::zC::yG::x0::x1::BF::zh::yK::x0::x1::zi::x0::Cl::yH::yk::x0::x1::Cm::yy::yN::x0::x1::Ci::x0::EO::Cj::Be::x0::x1::CK::x0::Fe::B1::CH::x0::x1::CM::x0::E3::BC::Bf::x0::x1::CU::x0::D9::Ce::Cp::x0::x1::Fd::Bn::CJ::x0::x1::Er::Ca::CO::x0::x1::Bu::x0::En::Cd::Cw::x0::x1::CC::x0::E1::Bh::Bs::x0::x1::Cb::x0::Fb::Cz::Cq::x0::x1::Bw::x0::ET::Bq::CP::[])) (.mk [] [] [] 0 [] [] false #[] [] 0 false false false 0 [2000,10,10] false 0 true [] [] 0 false)
theorem FI (w:World) (os:OsState):topRun treeTable PySem.Challenge.pw_pebbletoll_k59_texts_refused w 11 (some (.ref 6)) 2 (Shared.mk (h1 w.params) (.mk []) (.mk 0 0 0 0) 549 os) (restOf [] env cE (.mk 208 0 216 15) [topFrame (.mk 0 0 0 0)])=some (Shared.mk (hf w.params) (.mk []) (.mk 0 0 0 0) 549 os):=by kernel_rfl
theorem run (w:World) (os:OsState):topRun treeTable PySem.Challenge.pw_pebbletoll_k59_texts_refused w 11 (some (.ref 6)) (12+(1+(1986+(323+(2))))) (Shared.mk (boot_heap w.params) (.mk []) boot_drawn boot_toks os) (topStub PySem.Challenge.pw_pebbletoll_k59_texts_refused)=some (Shared.mk (hf w.params) (.mk []) (.mk 0 0 0 0) 549 os):=go_top (FC w os) (piece_block (FH w os) (piece_app (FL w os) (piece_app (Fy w os) (FI w os))))
theorem opn:∀ w:World,(fencedOpening treeTable PySem.Challenge.pw_pebbletoll_k59_texts_refused w 4740).map (fun s=>(s.heap,s.gens,s.drawn,s.toks))=some (boot_heap w.params,Array.mk [],boot_drawn,boot_toks):=boot_open (by kernel_rfl) (by decide) fun s=>by kernel_rfl
theorem siz (w:World):((boot_heap w.params).isNs mainGlobals && (Array.mk ([]:List GenState)).size == 0,(boot_heap w.params).objs.size,(boot_heap w.params).nsMap mainGlobals "__annotations__")=(true,11,(some (.ref 6))):=by kernel_rfl
noncomputable def KK:Params->Frag:=fun P =>
 (nat_lit 2,boot_o_2 P) ::
 (nat_lit 3,BU P) ::
 (nat_lit 15,x6) ::
 (nat_lit 22,x0) ::
 (nat_lit 23,x11 P) ::
 (nat_lit 24,x12) ::
 (nat_lit 25,x13) ::
 (nat_lit 28,x16) ::
 (nat_lit 35,x0) ::
 (nat_lit 36,x20 P) ::
 (nat_lit 37,x21) ::
 (nat_lit 40,x16) ::
 (nat_lit 47,x0) ::
 (nat_lit 48,x27 P) ::
 (nat_lit 49,x28) ::
 (nat_lit 52,x16) ::
 (nat_lit 59,x0) ::
 (nat_lit 60,x34 P) ::
 (nat_lit 61,x35) ::
 (nat_lit 64,x16) ::
 (nat_lit 71,x0) ::
 (nat_lit 73,x42) ::
 (nat_lit 74,x0) ::
 (nat_lit 76,x44) ::
 (nat_lit 77,x45) ::
 (nat_lit 78,x46) ::
 (nat_lit 79,x47 P) ::
 (nat_lit 80,x48) ::
 (nat_lit 83,x16) ::
 (nat_lit 90,x0) ::
 (nat_lit 92,x55) ::
 (nat_lit 93,x0) ::
 (nat_lit 95,x57) ::
 (nat_lit 96,x58) ::
 (nat_lit 97,x59) ::
 (nat_lit 98,x60 P) ::
 (nat_lit 99,x61) ::
 (nat_lit 109,x0) ::
 (nat_lit 112,x69) ::
 (nat_lit 113,x70) ::
 (nat_lit 114,x71) ::
 (nat_lit 115,x72 P) ::
 (nat_lit 116,x73) ::
 (nat_lit 117,x74) ::
 (nat_lit 118,x75) ::
 (nat_lit 121,x0) ::
 (nat_lit 123,x78) ::
 (nat_lit 124,x0) ::
 (nat_lit 126,x80) ::
 (nat_lit 127,x81) ::
 (nat_lit 128,x0) ::
 (nat_lit 130,x82) ::
 (nat_lit 131,x0) ::
 (nat_lit 133,x84) ::
 (nat_lit 134,x85) ::
 (nat_lit 135,x0) ::
 (nat_lit 137,x86) ::
 (nat_lit 138,x0) ::
 (nat_lit 140,x88) ::
 (nat_lit 141,x89) ::
 (nat_lit 142,x0) ::
 (nat_lit 144,x90) ::
 (nat_lit 145,x0) ::
 (nat_lit 147,x92) ::
 (nat_lit 148,x93) ::
 (nat_lit 149,x0) ::
 (nat_lit 151,x94) ::
 (nat_lit 152,x0) ::
 (nat_lit 154,x96) ::
 (nat_lit 155,x97) ::
 (nat_lit 156,x0) ::
 (nat_lit 158,x98) ::
 (nat_lit 159,x0) ::
 (nat_lit 161,zy) ::
 (nat_lit 162,zj) ::
 (nat_lit 163,x0) ::
 (nat_lit 166,yz) ::
 (nat_lit 167,zc) ::
 (nat_lit 168,x0) ::
 (nat_lit 171,yW) ::
 (nat_lit 172,zf) ::
 (nat_lit 173,x0) ::
 (nat_lit 176,yD) ::
 (nat_lit 177,yA) ::
 (nat_lit 178,x0) ::
 (nat_lit 180,yF) ::
 (nat_lit 181,x0) ::
 (nat_lit 183,zC) ::
 (nat_lit 184,yG) ::
 (nat_lit 185,x0) ::
 (nat_lit 188,zh) ::
 (nat_lit 189,yK) ::
 (nat_lit 190,x0) ::
 (nat_lit 192,zi) ::
 (nat_lit 193,x0) ::
 (nat_lit 195,yH) ::
 (nat_lit 196,yk) ::
 (nat_lit 197,x0) ::
 (nat_lit 200,yy) ::
 (nat_lit 201,yN) ::
 (nat_lit 202,x0) ::
 (nat_lit 204,Ci) ::
 (nat_lit 205,x0) ::
 (nat_lit 207,Cj) ::
 (nat_lit 208,Be) ::
 (nat_lit 209,x0) ::
 (nat_lit 211,CK) ::
 (nat_lit 212,x0) ::
 (nat_lit 214,B1) ::
 (nat_lit 215,CH) ::
 (nat_lit 216,x0) ::
 (nat_lit 218,CM) ::
 (nat_lit 219,x0) ::
 (nat_lit 221,BC) ::
 (nat_lit 222,Bf) ::
 (nat_lit 223,x0) ::
 (nat_lit 225,CU) ::
 (nat_lit 226,x0) ::
 (nat_lit 228,Ce) ::
 (nat_lit 229,Cp) ::
 (nat_lit 230,x0) ::
 (nat_lit 233,Bn) ::
 (nat_lit 234,CJ) ::
 (nat_lit 235,x0) ::
 (nat_lit 238,Ca) ::
 (nat_lit 239,CO) ::
 (nat_lit 240,x0) ::
 (nat_lit 242,Bu) ::
 (nat_lit 243,x0) ::
 (nat_lit 245,Cd) ::
 (nat_lit 246,Cw) ::
 (nat_lit 247,x0) ::
 (nat_lit 249,CC) ::
 (nat_lit 250,x0) ::
 (nat_lit 252,Bh) ::
 (nat_lit 253,Bs) ::
 (nat_lit 254,x0) ::
 (nat_lit 256,Cb) ::
 (nat_lit 257,x0) ::
 (nat_lit 259,Cz) ::
 (nat_lit 260,Cq) ::
 (nat_lit 261,x0) ::
 (nat_lit 263,Bw) ::
 (nat_lit 264,x0) ::
 (nat_lit 266,Bq) ::
 (nat_lit 267,CP)::[]
abbrev qq:Program:=PySem.W.view PySem.Challenge.pw_pebbletoll_k59_texts_refused [1,2,3,4,5,6,8,9,10,11,12,13,14,15,16,17,19,20,21,22,23,24,25,26,27,28,30,31,32,33,34,35,36,37,38]
abbrev asK:List Addr:=[2,3,15,22,23,24,25,28,35,36,37,40,47,48,49,52,59,60,61,64,71,73,74,76,77,78,79,80,83,90,92,93,95,96,97,98,99,109,112,113,114,115,116,117,118,121,123,124,126,127,128,130,131,133,134,135,137,138,140,141,142,144,145,147,148,149,151,152,154,155,156,158,159,161,162,163,166,167,168,171,172,173,176,177,178,180,181,183,184,185,188,189,190,192,193,195,196,197,200,201,202,204,205,207,208,209,211,212,214,215,216,218,219,221,222,223,225,226,228,229,230,233,234,235,238,239,240,242,243,245,246,247,249,250,252,253,254,256,257,259,260,261,263,264,266,267]
theorem asK_eq:∀ P,asK=(KK P).map (·.1):=fun _=>by kernel_rfl
theorem Ft (w:World):(fun os=>((staticsOk (importedModules PySem.Challenge.pw_pebbletoll_k59_texts_refused.main.body) (boot_heap w.params) (hf w.params) && namesBound PySem.Challenge.pw_pebbletoll_k59_texts_refused (hf w.params) && gensDone (Shared.mk (Hd.hf w.params) (.mk []) (.mk 0 0 0 0) 549 os) && laidKept (boot_heap w.params) (hf w.params)),openSeen qq [] (importedModules PySem.Challenge.pw_pebbletoll_k59_texts_refused.main.body) (fun s=>PySem.W.xlAt Hd.qq [] s && PySem.W.recOk (PySem.W.RowW.records (PySem.W.OpenRow.toRowW (PySem.Challenge.rw_pebbletoll_k59_texts_refused).row)) s) true (Shared.mk (Hd.hf w.params) (.mk []) (.mk 0 0 0 0) 549 os),Hook.obs (PySem.W.kHook Hd.KK Hd.asK Hd.asK_eq) (Shared.mk (Hd.hf w.params) (.mk []) (.mk 0 0 0 0) 549 os)))=fun _=>(true,openGood qq [],Hook.val (PySem.W.kHook Hd.KK Hd.asK Hd.asK_eq) w):=by kernel_rfl
theorem left:PySem.W.LeftO (PySem.Challenge.rw_pebbletoll_k59_texts_refused).row.prog qq [] (fun s=>PySem.W.xlAt Hd.qq [] s && PySem.W.recOk (PySem.W.RowW.records (PySem.W.OpenRow.toRowW (PySem.Challenge.rw_pebbletoll_k59_texts_refused).row)) s) (PySem.W.Hook.obs (PySem.W.kHook Hd.KK Hd.asK Hd.asK_eq)) (PySem.W.Hook.val (PySem.W.kHook Hd.KK Hd.asK Hd.asK_eq)) 4740:=LeftO.of_pieces opn siz run (by decide) Ft
end Hd
set_option Elab.async false
set_option linter.all false
set_option maxRecDepth 100000
namespace L2
open PySem PySem.Spec PyProof.Rows
abbrev Key:=Sum Int Str
def pB:Key->Value->Bool
 | .inl k,v=>Value.isInt k v
 | .inr x,v=>Value.isStrOf x v
def FF (w:World):Key->Int
 | .inl k=>hashInt k
 | .inr x=>hashStr w x
theorem cF:∀ {k:Key} {v:Value},pB k v=true->(∃ i t,k=Sum.inl i/\v=Value.int i t)\/(∃ x t,k=Sum.inr x/\v=Value.str x t)
 | .inl i,v,h=>by
   obtain ⟨t,e⟩:=Value.isInt_shape (k:=i) (v:=v) h;exact .inl ⟨i,t,rfl,e⟩
 | .inr x,v,h=>by
   obtain ⟨t,e⟩:=Value.isStrOf_shape (x:=x) (v:=v) h;exact .inr ⟨x,t,rfl,e⟩
theorem AX (i:Int) (t:Tok):pB (.inl i) (.int i t)=true:=by simp [pB,Value.isInt]
theorem AB (x:Str) (t:Tok):pB (.inr x) (.str x t)=true:=by simp [pB,Value.isStrOf]
theorem Fa (a b:Int):decide ((Sum.inl a:Key)=Sum.inl b)=(a == b):=by
 by_cases e:a=b
 . subst e;simp
 . have h:¬ (Sum.inl a:Key)=Sum.inl b:=fun q=>e (Sum.inl.inj q);rw [decide_eq_false h];exact (beq_eq_false_iff_ne.mpr e).symm
theorem EY (a b:Str):decide ((Sum.inr a:Key)=Sum.inr b)=decide (a=b):=by
 by_cases e:a=b
 . subst e;simp
 . have h:¬ (Sum.inr a:Key)=Sum.inr b:=fun q=>e (Sum.inr.inj q);rw [decide_eq_false h,decide_eq_false e]
theorem EA (a:Int) (b:Str):decide ((Sum.inl a:Key)=Sum.inr b)=false:=decide_eq_false (fun q=>nomatch q)
theorem Ef (a:Str) (b:Int):decide ((Sum.inr a:Key)=Sum.inl b)=false:=decide_eq_false (fun q=>nomatch q)
def ce (prog:Program) (w:World):PySem.KeyKind prog w Key where
 is:=pB
 hash:=FF w
 inj:=fun v a b ha hb=>by
   rcases cF ha with ⟨i,t,rfl,rfl⟩|⟨x,t,rfl,rfl⟩
   . rcases cF hb with ⟨j,u,rfl,e⟩|⟨y,u,rfl,e⟩
     . injection e with e1 _;rw [e1]
     . exact nomatch e
   . rcases cF hb with ⟨j,u,rfl,e⟩|⟨y,u,rfl,e⟩
     . exact nomatch e
     . injection e with e1 _;rw [e1]
 byValue:=fun k v h=>by
   rcases cF h with ⟨i,t,rfl,rfl⟩|⟨x,t,rfl,rfl⟩ <;> rfl
 pyHash:=fun hv h=>by
   rcases cF hv with ⟨i,t,rfl,rfl⟩|⟨x,t,rfl,rfl⟩
   . exact wpAny_pyHash_int h
   . exact wpAny_pyHash_str h
 eqBool:=fun hu hv h=>by
   rcases cF hu with ⟨i,t,rfl,rfl⟩|⟨x,t,rfl,rfl⟩
   . rcases cF hv with ⟨j,u,rfl,rfl⟩|⟨y,u,rfl,rfl⟩
     . rw [Fa] at h;exact wpAny_eqBool_int h
     . rw [EA] at h;exact SeqAt.EqAt.int_str i t y u _ _ _ _ h
   . rcases cF hv with ⟨j,u,rfl,rfl⟩|⟨y,u,rfl,rfl⟩
     . rw [Ef] at h;exact SeqAt.EqAt.str_int x t j u _ _ _ _ h
     . rw [EY] at h;exact wpAny_eqBool_str h
 «strs»:=fun k x t v h=>by
   rcases cF h with ⟨i,u,rfl,e⟩|⟨y,u,rfl,e⟩
   . exact nomatch e
   . injection e with e1 _
     subst e1;cases v <;> rfl
theorem xa (prog:Program) (w:World) (i:Int) (t:Tok):(ce prog w).is (.inl i) (.int i t)=true:=AX i t
theorem xz (prog:Program) (w:World) (x:Str) (t:Tok):(ce prog w).is (.inr x) (.str x t)=true:=AB x t
end L2
namespace L2
open PySem PySem.Spec PyProof.Rows
inductive V where
 | non|bl (b:Bool)|int (i:Int)|str (x:Str)|byt (b:Array UInt8)|flt (b:UInt64)|ref (a:Addr)|ty (n:String)
 deriving DecidableEq
def RelV:V->Value->Prop
 | .non,u=>u=Value.none
 | .bl b,u=>u=Value.bool b
 | .int i,u=>∃ t,u=Value.int i t
 | .str x,u=>∃ t,u=Value.str x t
 | .byt b,u=>∃ t,u=Value.bytes b t
 | .flt b,u=>∃ t,u=Value.float b t
 | .ref a,u=>u=Value.ref a
 | .ty n,u=>u=Value.type n
abbrev Vals:List V->List Value->Prop:=Paired RelV
theorem Vals.length {xs:List V} {us:List Value} (r:Vals xs us):xs.length=us.length:=Paired.length r
theorem Vals.get:∀ {xs:List V} {us:List Value} {i:Nat} {x:V},Vals xs us->xs[i]?=some x->∃ u,us[i]?=some u/\RelV x u
 | _,_,_,_,.nil,e=>by simp at e
 | _,_,0,_,.cons r _,e=>by simp at e;subst e;exact ⟨_,rfl,r⟩
 | _,_,i+1,x,.cons _ t,e=>by
   obtain ⟨u,h1,h2⟩:=Vals.get (i:=i) (x:=x) t (by simpa using e);exact ⟨u,by simpa using h1,h2⟩
theorem Vals.set {x:V} {u:Value} (r:RelV x u):∀ {xs:List V} {us:List Value} (i:Nat),Vals xs us->Vals (xs.set i x) (us.set i u)
 | _,_,_,.nil=>.nil
 | _,_,0,.cons _ t=>.cons r t
 | _,_,i+1,.cons q t=>.cons q (Vals.set r i t)
theorem Vals.append:∀ {xs ys:List V} {us ws:List Value},Vals xs us->Vals ys ws->Vals (xs++ys) (us++ws)
 | _,_,_,_,.nil,s=>s
 | _,_,_,_,.cons r t,s=>.cons r (Vals.append t s)
theorem Vals.take:∀ {xs:List V} {us:List Value} (n:Nat),Vals xs us->Vals (xs.take n) (us.take n)
 | _,_,0,_=>.nil
 | _,_,_+1,.nil=>.nil
 | _,_,n+1,.cons r t=>.cons r (Vals.take n t)
theorem Vals.drop:∀ {xs:List V} {us:List Value} (n:Nat),Vals xs us->Vals (xs.drop n) (us.drop n)
 | _,_,0,r=>r
 | _,_,_+1,.nil=>.nil
 | _,_,n+1,.cons _ t=>Vals.drop n t
def RelO:Option V->Option Value->Prop
 | some v,some u=>RelV v u
 | none,none=>True
 | _,_=>False
def KV {κ:Type}:List (κ × V)->List (κ × Value)->Prop:=Paired fun (p:κ × V) (q:κ × Value)=>p.1=q.1/\RelV p.2 q.2
def kV:Key->V
 | .inl i=>.int i
 | .inr x=>.str x
inductive HO where
 /-- a list -/
 | lst (xs:List V)
 /-- a tuple (never changes) -/
 | tup (xs:List V)
 /-- a dict whose keys are ints and texts;one whose keys are tuples of ints and texts (the empty one is both) -/
 | dK (kvs:List (Key × V))|dT (kvs:List (List Key × V))
 /-- a set of ints: its members,its size -/
 | set (S:Int->Bool) (n:Nat)
 /-- an instance of the class at C,its dict at dx,its attributes -/
 | ins (C dx:Addr) (fs:List (Str × V))
 /-- the dict of the instance at x -/
 | own (x:Addr)
 /-- the dict of an exception -/
 | xd (fs:List (Str × V))
 /-- a bound method,f of x -/
 | met (f x:Addr)
 /-- a range object lo,lo+1,.. below hi -/
 | rng (lo hi:Int)
 /-- a thing that is known to the object (the script;a dict while a loop walks it): read,never written while it is so -/
 | frz (o:Obj) (u:HO)
 /-- a code object's table -/
 | tbl (ps:Array Value)
 /-- any other thing,by what is true of its one object (a def of one's own: SetO a S n:=HO.ext fun h=>..) -/
 | ext (φ:Heap->Prop)
abbrev Hp:=Addr->Option HO
def upd (H:Hp) (a:Addr) (o:HO):Hp:=fun b=>if b=a then some o else H b
theorem af {H:Hp} {a:Addr} {o:HO}:upd H a o a=some o:=by unfold upd;rw [if_pos rfl]
theorem am {H:Hp} {a b:Addr} {o:HO} (h:b≠a):upd H a o b=H b:=by unfold upd;rw [if_neg h]
theorem jI {H:Hp} {a:Addr} {o u:HO}:upd (upd H a o) a u=upd H a u:=by
 funext b;unfold upd;split <;> rfl
theorem zo {H:Hp} {a b:Addr} {o u:HO} (h:H a=some o) (h':H b=some u) (d:o≠u):a≠b:=by
 intro e;subst e;rw [h] at h';exact d (Option.some.inj h')
theorem au {H:Hp} {a b:Addr} {o:HO} (h:H a=some o) (h':H b=none):a≠b:=by
 intro e;subst e;rw [h] at h';cases h'
section
variable (P:Program) (w:World)
def ObjOk (H:Hp) (h:Heap) (a:Addr):HO->Prop
 | .lst xs=>xs.length<=sizeLine/\∃ (its:List Value) (n:Nat),Vals xs its/\h.get? a=some { cls:=.type "list",data:=.seq its.toArray n }
 | .tup xs=>xs.length<=sizeLine/\∃ its:List Value,Vals xs its/\IsTup h a its.toArray
 | .dK kvs=>kvs.length<=sizeLine/\(a == sysModules)=false/\∃ vs,KV kvs vs/\h.DictOf (ce P w) a vs
 | .dT kvs=>kvs.length<=sizeLine/\(a == sysModules)=false/\∃ xs:List (List Key × Addr × Value),
     Paired (fun (p:List Key × V) (q:List Key × Addr × Value)=>p.1=q.1/\H q.2.1=some (.tup (p.1.map kV))/\RelV p.2 q.2.2) kvs xs /\
     ∃ o es ep,h.get? a=some o/\o.ExactDict/\o.data=.dict es ep/\es.toList=xs.map (entryOfKey (tupleKind (ce P w)))/\(xs.map (·.1)).Nodup
 | .set S n=>h.SetOf (intKind P w) a S n
 | .ins C dx fs=>H dx=some (.own a)/\fs.length<=1000/\dx≠a/\h.get? a=some (PySem.W.instObj C dx) /\
     ∃ mA,h.Ns1 dx mA/\(∀ f,RelO (fs.lookup f) (mA f))/\PySem.Within mA (fs.map (·.1))
 | .own _=>∃ o,h.get? a=some o
 | .xd fs=>∃ mA,h.Ns1 a mA/\∀ f,RelO (fs.lookup f) (mA f)
 | .rng lo hi=>∃ t u v,h.get? a=some { cls:=.type "range",data:=.fields #[.int lo t,.int hi u,.int 1 v] }
 | .frz o u=>h.get? a=some o/\ObjOk H h a u
 | .tbl ps=>h.get? a=some { cls:=.none,data:=.fields ps }
 | .met f x=>h.get? a=some (PySem.W.methodObj (.ref f) (.ref x))
 | .ext φ=>φ h/\(∃ o,h.get? a=some o)/\∀ h1 h2:Heap,φ h1->(∀ o,h1.get? a=some o->h2.get? a=some o)->φ h2
def HOk (H:Hp) (h:Heap):Prop:=∀ a o,H a=some o->ObjOk P w H h a o
end
section
variable {P:Program} {w:World} {H H':Hp} {h h':Heap} {a:Addr} {o:HO}
theorem ObjOk.lt (x:ObjOk P w H h a o):a<h.objs.size:=by
 cases o with
 | lst xs=>obtain ⟨_,_,_,_,e⟩:=x;exact Heap.lt_size e
 | tup xs=>obtain ⟨_,_,_,p⟩:=x;exact p.lt
 | dK kvs=>obtain ⟨_,_,_,_,o,_,_,e,_⟩:=x;exact Heap.lt_size e
 | dT kvs=>obtain ⟨_,_,_,_,o,_,_,e,_⟩:=x;exact Heap.lt_size e
 | set S n=>obtain ⟨o,_,_,_,e,_⟩:=x;exact Heap.lt_size e
 | ins C dx fs=>obtain ⟨_,_,_,e,_⟩:=x;exact Heap.lt_size e
 | own y=>obtain ⟨_,e⟩:=x;exact Heap.lt_size e
 | xd fs=>obtain ⟨_,⟨_,_,_,e,_⟩,_⟩:=x;exact Heap.lt_size e
 | rng lo hi=>obtain ⟨_,_,_,e⟩:=x;exact Heap.lt_size e
 | frz ob u=>obtain ⟨e,_⟩:=x;exact Heap.lt_size e
 | tbl ps=>exact Heap.lt_size (show h.get? a=some _ from x)
 | met f y=>exact Heap.lt_size (show h.get? a=some _ from x)
 | ext φ=>obtain ⟨_,⟨_,e⟩,_⟩:=x;exact Heap.lt_size e
theorem Paired.mapP {α β:Type} {F G:α->β->Prop}:∀ {l₁:List α} {l₂:List β},Paired F l₁ l₂->(∀ a b,F a b->G a b)->Paired G l₁ l₂
 | _,_,.nil,_=>.nil
 | _,_,.cons r t,f=>.cons (f _ _ r) (Paired.mapP t f)
theorem Paired.imp' {α β:Type} {F G:α->β->Prop} (f:∀ a b,F a b->G a b) {l₁:List α} {l₂:List β} (r:Paired F l₁ l₂):Paired G l₁ l₂:=Paired.mapP r f
theorem ObjOk.stay (x:ObjOk P w H h a o) (k:∀ b u,(b=a\/H b=some (.own a))->h.get? b=some u->h'.get? b=some u)
   (ho:∀ b,H b=some (.own a)->H' b=some (.own a)) (ht:∀ b xs,H b=some (.tup xs)->H' b=some (.tup xs)):ObjOk P w H' h' a o:=by
 induction o with
 | lst xs=>obtain ⟨z,its,n,r,e⟩:=x;exact ⟨z,its,n,r,k _ _ (.inl rfl) e⟩
 | tup xs=>obtain ⟨z,its,r,ob,e,c⟩:=x;exact ⟨z,its,r,ob,k _ _ (.inl rfl) e,c⟩
 | dK kvs=>obtain ⟨z,y,vs,r,ob,es,ep,e,c⟩:=x;exact ⟨z,y,vs,r,ob,es,ep,k _ _ (.inl rfl) e,c⟩
 | dT kvs =>
   obtain ⟨z,y,xs,r,ob,es,ep,e,c⟩:=x;exact ⟨z,y,xs,Paired.mapP r fun p q z=>⟨z.1,ht _ _ z.2.1,z.2.2⟩,ob,es,ep,k _ _ (.inl rfl) e,c⟩
 | set S n=>obtain ⟨ob,es,ep,t,e,c⟩:=x;exact ⟨ob,es,ep,t,k _ _ (.inl rfl) e,c⟩
 | ins C dx fs =>
   obtain ⟨d,z,ne,e,mA,⟨od,es,ep,e2,c⟩,r⟩:=x;exact ⟨ho _ d,z,ne,k _ _ (.inl rfl) e,mA,⟨od,es,ep,k _ _ (.inr d) e2,c⟩,r⟩
 | own y=>obtain ⟨ob,e⟩:=x;exact ⟨ob,k _ _ (.inl rfl) e⟩
 | xd fs=>obtain ⟨mA,⟨od,es,ep,e,c⟩,r⟩:=x;exact ⟨mA,⟨od,es,ep,k _ _ (.inl rfl) e,c⟩,r⟩
 | rng lo hi=>obtain ⟨t,u,v,e⟩:=x;exact ⟨t,u,v,k _ _ (.inl rfl) e⟩
 | frz ob u ih=>obtain ⟨e,q⟩:=x;exact ⟨k _ _ (.inl rfl) e,ih q⟩
 | tbl ps =>
   have e:h.get? a=some { cls:=.none,data:=.fields ps }:=x;show h'.get? a=some { cls:=.none,data:=.fields ps };exact k a _ (.inl rfl) e
 | met f y =>
   have e:h.get? a=some (PySem.W.methodObj (.ref f) (.ref y)):=x;show h'.get? a=some (PySem.W.methodObj (.ref f) (.ref y));exact k a _ (.inl rfl) e
 | ext φ=>obtain ⟨p,⟨o,e⟩,st⟩:=x;exact ⟨st _ _ p fun o q=>k _ _ (.inl rfl) q,⟨o,k _ _ (.inl rfl) e⟩,st⟩
theorem HOk.lt (x:HOk P w H h) (e:H a=some o):a<h.objs.size:=(x a o e).lt
theorem HOk.fresh (x:HOk P w H h) (e:h.objs.size<=a):H a=none:=by
 cases q:H a with
 | none=>rfl
 | some u=>exact absurd (Nat.lt_of_lt_of_le (x.lt q) e) (Nat.lt_irrefl _)
theorem HOk.kept (x:HOk P w H h) (k:∀ b u,h.get? b=some u->h'.get? b=some u):HOk P w H h':=fun a o e =>
 (x a o e).stay (fun b u _ q=>k b u q) (fun _ q=>q) fun _ _ q=>q
theorem HOk.laid (x:HOk P w H h) (k:∀ b u,h.get? b=some u->h'.get? b=some u) (hp:h.objs.size<=a) (new:ObjOk P w (upd H a o) h' a o):HOk P w (upd H a o) h':=fun b u e=>by
 have hn:=x.fresh hp;by_cases hb:b=a
 . subst hb;rw [af] at e;cases e;exact new
 . rw [am hb] at e;exact (x b u e).stay (fun c v _ q=>k c v q) (fun c q=>by rw [am (au q hn)];exact q) fun c xs q=>by rw [am (au q hn)];exact q
end
def Rd (H:Hp) (a:Addr) (u:HO):Prop:=H a=some u\/∃ o,H a=some (.frz o u)
theorem Rd.ok {P:Program} {w:World} {H:Hp} {h:Heap} {a:Addr} {u:HO} (r:Rd H a u) (x:HOk P w H h):ObjOk P w H h a u:=by
 rcases r with r|⟨o,r⟩
 . exact x a u r
 . obtain ⟨_,q⟩:=x a _ r;exact q
def Mut:Option HO->Prop
 | some (.lst _)=>True
 | some (.dK _)=>True
 | some (.dT _)=>True
 | some (.set _ _)=>True
 | some (.ins _ _ _)=>True
 | some (.ext _)=>True
 | _=>False
section
variable {P:Program} {w:World} {H:Hp} {h h':Heap} {x e:Addr} {o':HO}
theorem HOk.write (ok:HOk P w H h) (mu:Mut (H x)) (he:e=x\/H e=some (.own x)) (k:∀ b u,b≠e->h.get? b=some u->h'.get? b=some u) (heo:∃ u,h'.get? e=some u)
   (new:ObjOk P w (upd H x o') h' x o'):HOk P w (upd H x o') h':=fun b u q=>by
 have nown:∀ c y,H c=some (.own y)->c≠x:=fun c y r z=>by subst z;rw [r] at mu;exact mu
 have ntup:∀ c xs,H c=some (.tup xs)->c≠x:=fun c xs r z=>by subst z;rw [r] at mu;exact mu
 by_cases hb:b=x
 . subst hb;rw [af] at q;cases q;exact new
 . rw [am hb] at q;by_cases hbe:b=e
   . have q':H b=some (.own x):=by
       rcases he with z|z
       . exact absurd (hbe.trans z) hb
       . rw [hbe];exact z
     rw [q] at q';cases q';obtain ⟨v,hv⟩:=heo;exact ⟨v,by rw [hbe];exact hv⟩
   . refine (ok b u q).stay (fun c v hc r=>k c v ?_ r) (fun c r=>by rw [am (nown c b r)];exact r) fun c xs r=>by rw [am (ntup c xs r)];exact r
     rcases hc with rfl|hc
     . exact hbe
     . rintro rfl;rcases he with z|z
       . exact nown c b hc z
       . rw [hc] at z;cases z;exact hb rfl
end
structure Un (fs ex:List Addr) (H H':Hp) (h h':Heap):Prop where
 keep:∀ b o,h.get? b=some o->H b=none->b ∉ fs->b ∉ ex->h'.get? b=some o
 slot:∀ b o,h.get? b=some o->H b=none->b∈fs->b ∉ ex->∃ sl,h'.get? b=some { o with slots:=sl }
 free:∀ b o,h.get? b=some o->H b=none->b ∉ ex->H' b=none
 there:∀ b o,h.get? b=some o->b ∉ ex->∃ o',h'.get? b=some o'
 tups:∀ b xs,H b=some (.tup xs)->H' b=some (.tup xs)
 frzs:∀ b o u,H b=some (.frz o u)->H' b=some (.frz o u)
 tbls:∀ b ps,H b=some (.tbl ps)->∃ more,H' b=some (.tbl (ps++more))
section
variable {fs fs' ex ex':List Addr} {H H1 H2:Hp} {h h1 h2 h':Heap} {a x e:Addr} {o:HO}
theorem Un.any (u:Un fs ex H H1 h h1) {b:Addr} {ob:Obj} (q:h.get? b=some ob) (n:H b=none) (hx:b ∉ ex):∃ sl,h1.get? b=some { ob with slots:=sl }:=by
 by_cases hb:b∈fs
 . exact u.slot b ob q n hb hx
 . exact ⟨ob.slots,u.keep b ob q n hb hx⟩
theorem Un.kept (k:∀ b u,h.get? b=some u->h'.get? b=some u):Un fs ex H H h h' :=
 ⟨fun b ob q _ _ _=>k b ob q,fun b ob q _ _ _=>⟨ob.slots,k b ob q⟩,fun _ _ _ n _=>n,fun b ob q _=>⟨ob,k b ob q⟩,fun _ _ q=>q,fun _ _ _ q=>q,fun _ ps q=>⟨#[],by rw [q];simp⟩⟩
theorem Un.refl:Un fs ex H H h h:=Un.kept fun _ _ q=>q
theorem Un.laid (k:∀ b u,h.get? b=some u->h'.get? b=some u) (hp:h.objs.size<=a) (hn:H a=none):Un fs ex H (upd H a o) h h' where
 keep:=fun b u q _ _ _=>k b u q
 slot:=fun b u q _ _ _=>⟨u.slots,k b u q⟩
 free:=fun b u q n _=>by rw [am (Nat.ne_of_lt (Nat.lt_of_lt_of_le (Heap.lt_size q) hp))];exact n
 there:=fun b u q _=>⟨u,k b u q⟩
 tups:=fun b xs q=>by rw [am (au q hn)];exact q
 frzs:=fun b u xs q=>by rw [am (au q hn)];exact q
 tbls:=fun b ps q=>⟨#[],by rw [am (au q hn),q];simp⟩
theorem Un.write (mu:Mut (H x)) (he:e=x\/H e=some (.own x)) (k:∀ b u,b≠e->h.get? b=some u->h'.get? b=some u) (heo:∃ u,h'.get? e=some u):Un fs ex H (upd H x o) h h':=by
 have hx:∀ b,H b=none->b≠x:=fun b n z=>by subst z;rw [n] at mu;exact mu
 have hb:∀ b,H b=none->b≠e:=fun b n z=>by
   subst z;rcases he with r|r
   . exact hx b n r
   . rw [n] at r;cases r
 have hm:∀ b u,H b=some u->¬ Mut (some u)->b≠x:=fun b u q nm z=>by subst z;rw [q] at mu;exact nm mu
 refine ⟨fun b u q n _ _=>k b u (hb b n) q,fun b u q n _ _=>⟨u.slots,k b u (hb b n) q⟩,fun b u q n _=>by rw [am (hx b n)];exact n,fun b u q _=>?_,
   fun b xs q=>by rw [am (hm b _ q fun z=>z)];exact q,fun b u xs q=>by rw [am (hm b _ q fun z=>z)];exact q,fun b ps q=>⟨#[],by rw [am (hm b _ q fun z=>z),q];simp⟩⟩
 by_cases hbe:b=e
 . subst hbe;exact heo
 . exact ⟨u,k b u hbe q⟩
end
def trk (h:Heap) (H:Hp):List Addr:=(List.range h.objs.size).filter fun a=>(H a).isSome
def mG (h:Heap) (H:Hp):Heap:=PySem.W.hideAll h (trk h H)
theorem AV (h:Heap) (H:Hp):(mG h H).objs.size=h.objs.size:=PySem.W.hideAll_size _ _
theorem BL {h:Heap} {H:Hp} {b:Addr} {o:Obj} (e:h.get? b=some o) (n:H b=none):(mG h H).get? b=some o :=
 PySem.W.hideAll_get _ e fun hm=>by
   have q:(H b).isSome=true:=(List.mem_filter.mp hm).2;rw [n] at q;simp at q
theorem DC {h:Heap} {H:Hp} {b:Addr} {o:Obj} (e:(mG h H).get? b=some o):h.get? b=some o/\H b=none:=by
 have e':h.get? b=some o:=PySem.W.of_hideAll (trk h H) e;refine ⟨e',?_⟩;cases q:H b with
 | none=>rfl
 | some x =>
   have hm:b∈trk h H:=List.mem_filter.mpr ⟨List.mem_range.mpr (Heap.lt_size e'),by simp [q]⟩;have z:(mG h H).get? b=none:=PySem.W.hideAll_none (trk h H) hm;rw [z] at e;cases e
def DD (g h:Heap) (L:Addr):List (Addr × Obj):=(List.range h.objs.size).filterMap fun a=>if a=L\/(g.get? a).isSome=true then none else (h.get? a).map fun o=>(a,o)
def ao (g h:Heap) (L d:Addr):List (Addr × Obj):=(DD g h L).filter fun p=>decide (p.1≠d)
end L2
namespace L2
open PySem PySem.Spec PyProof.Rows
structure Mod (K:PySem.W.Frag) (mg:Str->Option Value) (base:Heap):Prop where
 kin:K.In base
 glob:base.Ns mainGlobals mg
 blt:∃ mb,base.Ns builtinsNs mb/\∀ x:Str,x≠"__name__"->mb x=bootBuiltins x
 nolimit:base.NoLimit
structure Cx where
 prog:Program
 w:World
 K:PySem.W.Frag
 mg:Str->Option Value
 base:Heap
 A:Around
 N:List Str
 s₀:Shared
 H₀:Hp
 env:Env
 outer:List Env
 stack:List Env
 ex:List Addr
 fn:Str->Bool
 calm:Bool
 pn:List (Addr × Obj)
 xe:Value->Shared->Prop
def frs (l:List Env):List Addr:=l.filterMap (·.frame)
abbrev Cx.fs (X:Cx):List Addr:=frs X.outer
def Vis (sc:Scope) (x:Str):Prop:=sc.names.lookup x=some .local\/sc.names.lookup x=some .cell\/sc.names.lookup x=some .free
def Loc (sc:Scope) (x:Str):Prop:=sc.names.lookup x=some .local\/sc.names.lookup x=some .cell
def FJ (env:Env) (h:Heap) (m:Str->Option Value) (x:Str) (u:Value):Prop :=
 (env.kindOf x=some .local/\m x=some u)\/((env.kindOf x=some .cell\/env.kindOf x=some .free)/\∃ c,env.cells.lookup x=some c/\h.IsCell c (some u))
structure Cx.Ok (X:Cx):Prop where
 mod:Mod X.K X.mg X.base
 kind:X.env.scope.kind=.function
 glob:X.env.globals=mainGlobals
 blt:X.env.builtins=builtinsNs
 above:X.s₀.heap.objs.size<=X.env.locals
 inj:∀ x y c,X.env.cells.lookup x=some c->X.env.cells.lookup y=some c->x=y
 has:∀ x,(X.env.kindOf x=some .cell\/X.env.kindOf x=some .free)->∃ c,X.env.cells.lookup x=some c
 cab:∀ x c,X.fn x=true->X.env.cells.lookup x=some c->X.s₀.heap.objs.size<=c
 hd:X.calm=true->X.A.handled=none
 frames:X.A.frames=some X.stack
 stk:X.stack=X.outer\/(X.stack=X.env::X.outer/\X.env.frame=some X.env.locals)
 exf:∀ b∈X.ex,b≠X.env.locals/\∀ x c,X.env.cells.lookup x=some c->c≠b
 bs:∀ b o,X.base.get? b=some o->X.s₀.heap.get? b=some o/\X.H₀ b=none
 bsz:X.base.objs.size<=X.s₀.heap.objs.size
 noex:∀ b o,X.base.get? b=some o->b ∉ X.ex
 exfs:∀ b∈X.ex,b ∉ X.fs
 funs:X.s₀.heap.FunFrames X.base X.outer
 frf:∀ b∈X.fs,X.H₀ b=none
structure Inv (X:Cx) (pins:List (Addr × Obj)) (σ:List (Option V)) (H:Hp) (s:Shared):Prop where
 ok:X.Ok
 os:s.os=X.s₀.os
 bare:AllBare s.gens
 base:Un X.fs X.ex X.H₀ H X.s₀.heap s.heap
 loc:∃ m,s.heap.Ns X.env.locals m/\∀ (i:Nat) (x:Str) (v:V),X.N[i]?=some x->σ[i]?=some (some v)->Vis X.env.scope x->∃ u,RelV v u/\FJ X.env s.heap m x u
 cell:∀ x c,X.env.cells.lookup x=some c->∃ v,s.heap.IsCell c v
 free:H X.env.locals=none
 freeC:∀ x c,X.env.cells.lookup x=some c->H c=none
 pin:∀ p∈X.pn++pins,s.heap.get? p.1=some p.2/\H p.1=none/\p.1≠X.env.locals/\p.1 ∉ X.fs/\∀ v,p.2.data≠.cell v
 hok:HOk X.prog X.w H s.heap
 len:σ.length=X.N.length
section
variable {X:Cx} {pins:List (Addr × Obj)} {σ:List (Option V)} {H H':Hp} {s:Shared} {h':Heap}
theorem Cx.Ok.nofr (ok:X.Ok) {b:Addr} {o:Obj} (e:X.base.get? b=some o):b ∉ X.fs:=fun hb=>by
 have:=(ok.funs.mem hb).1;rw [e] at this;cases this
theorem Inv.bs (I:Inv X pins σ H s):∀ b o,X.base.get? b=some o->s.heap.get? b=some o/\H b=none:=fun b o e =>
 ⟨I.base.keep b o (I.ok.bs b o e).1 (I.ok.bs b o e).2 (I.ok.nofr e) (I.ok.noex b o e),I.base.free b o (I.ok.bs b o e).1 (I.ok.bs b o e).2 (I.ok.noex b o e)⟩
theorem Inv.bk (I:Inv X pins σ H s):∀ b o,X.base.get? b=some o->s.heap.get? b=some o:=fun b o e=>(I.bs b o e).1
theorem Inv.mod (I:Inv X pins σ H s):Mod X.K X.mg X.base:=I.ok.mod
theorem Inv.kIn (I:Inv X pins σ H s):X.K.In s.heap:=I.ok.mod.kin.keeps I.bk
theorem Inv.lt (I:Inv X pins σ H s):X.env.locals<s.heap.objs.size:=let ⟨_,hn,_⟩:=I.loc;hn.lt
theorem Inv.sz (I:Inv X pins σ H s):X.s₀.heap.objs.size<=s.heap.objs.size:=Nat.le_trans I.ok.above (Nat.le_of_lt I.lt)
theorem Inv.nofs (I:Inv X pins σ H s) {a:Addr} (h:s.heap.objs.size<=a):a ∉ X.fs:=fun hb=>by
 obtain ⟨_,o,ho,_⟩:=I.ok.funs.mem hb;exact absurd (Nat.lt_of_lt_of_le (Heap.lt_size ho) (Nat.le_trans I.sz h)) (Nat.lt_irrefl _)
theorem Inv.cne (I:Inv X pins σ H s):∀ x c,X.env.cells.lookup x=some c->c≠X.env.locals:=fun x c e z=>by
 obtain ⟨v,o,ho,hd⟩:=I.cell x c e;obtain ⟨m,⟨o',es,ep,ho',hd',_⟩,_⟩:=I.loc;rw [z,ho'] at ho;cases ho;rw [hd'] at hd;cases hd
theorem Inv.funs (I:Inv X pins σ H s):s.heap.FunFrames X.base X.outer:=by
 have all:∀ (l:List Env),(∀ b∈frs l,b∈X.fs)->X.s₀.heap.FunFrames X.base l->s.heap.FunFrames X.base l:=by
   intro l
   induction l with
   | nil=>intro _ _;trivial
   | cons env r ih =>
     intro hs hl;obtain ⟨hk,⟨L,o,hf,hn,ho,hd⟩,hr⟩:=hl;have hL:L∈X.fs:=hs L (by unfold frs;rw [List.filterMap_cons,hf];exact List.mem_cons_self);obtain ⟨sl,e⟩:=I.base.slot L o ho (I.ok.frf L hL) hL fun z=>I.ok.exfs L z hL;exact ⟨hk,⟨L,_,hf,hn,e,hd⟩,ih (fun b hb=>hs b (by unfold frs;rw [List.filterMap_cons,hf];exact List.mem_cons_of_mem _ hb)) hr⟩
 exact all X.outer (fun _ hb=>hb) I.ok.funs
theorem Inv.stack (I:Inv X pins σ H s):s.heap.FunFrames X.base X.stack:=by
 rcases I.ok.stk with e|⟨e,hf⟩
 . rw [e];exact I.funs
 . rw [e];obtain ⟨m,hn,_⟩:=I.loc;refine .cons (by rw [I.ok.kind];decide) hf hn ?_ I.funs;exact Heap.get?_none_of_le (Nat.le_trans I.ok.bsz I.ok.above)
theorem Inv.stkSub (I:Inv X pins σ H s):∀ b∈frs X.stack,b∈X.env.locals::X.fs:=fun b hb=>by
 rcases I.ok.stk with e|⟨e,hf⟩
 . rw [e] at hb;exact List.mem_cons_of_mem _ hb
 . rw [e] at hb;unfold frs at hb;rw [List.filterMap_cons,hf] at hb;exact hb
theorem Inv.stkFree (I:Inv X pins σ H s):∀ b∈frs X.stack,H b=none:=fun b hb=>by
 rcases List.mem_cons.mp (I.stkSub b hb) with e|hb
 . rw [e];exact I.free
 . obtain ⟨_,o,ho,_⟩:=I.ok.funs.mem hb;exact I.base.free b o ho (I.ok.frf b hb) fun z=>I.ok.exfs b z hb
theorem Inv.step {g':Array GenState} {t':Nat} {d':Drawn} {ch:List Addr} (I:Inv X pins σ H s)
   (hch:∀ b∈ch,(b∈X.ex\/X.s₀.heap.objs.size<=b)/\b≠X.env.locals/\(∀ x c,X.env.cells.lookup x=some c->c≠b)/\∀ p∈X.pn++pins,p.1≠b)
   (keep:∀ b o,b≠X.env.locals->b ∉ X.fs->b ∉ ch->s.heap.get? b=some o->H b=none->h'.get? b=some o)
   (slot:∀ b o,b≠X.env.locals->b∈X.fs->b ∉ ch->s.heap.get? b=some o->H b=none->∃ sl,h'.get? b=some { o with slots:=sl }) (free:∀ b o,b ∉ ch->s.heap.get? b=some o->H b=none->H' b=none)
   (there:∀ b o,b ∉ ch->s.heap.get? b=some o->∃ o',h'.get? b=some o')
   (tups:∀ b xs,H b=some (.tup xs)->H' b=some (.tup xs)) (frzs:∀ b o u,H b=some (.frz o u)->H' b=some (.frz o u)) (tbls:∀ b ps,H b=some (.tbl ps)->∃ more,H' b=some (.tbl (ps++more)))
   (ns:∀ m,s.heap.Ns X.env.locals m->h'.Ns X.env.locals m) (hok:HOk X.prog X.w H' h') (hg:AllBare g') :
   Inv X pins σ H' { s with heap:=h',gens:=g',drawn:=d',toks:=t' }:=by
 have neL:∀ b o,X.s₀.heap.get? b=some o->b≠X.env.locals:=fun b o e=>Nat.ne_of_lt (Nat.lt_of_lt_of_le (Heap.lt_size e) I.ok.above);have neC:∀ b o,X.s₀.heap.get? b=some o->b ∉ X.ex->b ∉ ch:=fun b o e hx hb=>by
   rcases (hch b hb).1 with z|z
   . exact hx z
   . exact absurd (Nat.lt_of_lt_of_le (Heap.lt_size e) z) (Nat.lt_irrefl _)
 have cellK:∀ x c,X.env.cells.lookup x=some c->∀ v,s.heap.IsCell c v->h'.IsCell c v:=fun x c e v ⟨o,ho,hd⟩=>by
   have nch:c ∉ ch:=fun z=>(hch c z).2.2.1 x c e rfl;by_cases hc:c∈X.fs
   . obtain ⟨sl,q⟩:=slot c o (I.cne x c e) hc nch ho (I.freeC x c e);exact ⟨_,q,hd⟩
   . exact ⟨o,keep c o (I.cne x c e) hc nch ho (I.freeC x c e),hd⟩
 refine ⟨I.ok,I.os,hg,⟨fun b o e n hb hx=>?_,fun b o e n hb hx=>?_,fun b o e n hx=>?_,fun b o e hx=>?_,fun b xs e=>tups b xs (I.base.tups b xs e),fun b o xs e=>frzs b o xs (I.base.frzs b o xs e),fun b ps e=>?_⟩,?_,fun x c e=>?_,?_,fun x c e=>?_,fun p hp=>?_,hok,I.len⟩
 . exact keep b o (neL b o e) hb (neC b o e hx) (I.base.keep b o e n hb hx) (I.base.free b o e n hx)
 . obtain ⟨sl,e1⟩:=I.base.slot b o e n hb hx;obtain ⟨sl',e2⟩:=slot b _ (neL b o e) hb (neC b o e hx) e1 (I.base.free b o e n hx);exact ⟨sl',e2⟩
 . obtain ⟨o',e1⟩:=I.base.there b o e hx;exact free b o' (neC b o e hx) e1 (I.base.free b o e n hx)
 . obtain ⟨o',e1⟩:=I.base.there b o e hx;exact there b o' (neC b o e hx) e1
 . obtain ⟨m1,e1⟩:=I.base.tbls b ps e;obtain ⟨m2,e2⟩:=tbls b _ e1;exact ⟨m1++m2,by rw [e2,Array.append_assoc]⟩
 . obtain ⟨m,hn,hl⟩:=I.loc;refine ⟨m,ns m hn,fun i x v e1 e2 e3=>?_⟩;obtain ⟨u,r,l⟩:=hl i x v e1 e2 e3;refine ⟨u,r,?_⟩;rcases l with l|⟨k,c,e,z⟩
   . exact .inl l
   . exact .inr ⟨k,c,e,cellK x c e _ z⟩
 . obtain ⟨v,z⟩:=I.cell x c e;exact ⟨v,cellK x c e v z⟩
 . obtain ⟨m,⟨o,_,_,ho,_⟩,_⟩:=I.loc;exact free _ o (fun z=>(hch _ z).2.1 rfl) ho I.free
 . obtain ⟨v,o,ho,hd⟩:=I.cell x c e;exact free c o (fun z=>(hch c z).2.2.1 x c e rfl) ho (I.freeC x c e)
 . obtain ⟨e,n,ne,nf,d⟩:=I.pin p hp;have nch:p.1 ∉ ch:=fun z=>(hch p.1 z).2.2.2 p hp rfl;exact ⟨keep p.1 p.2 ne nf nch e n,free p.1 p.2 nch e n,ne,nf,d⟩
theorem Inv.un {t':Nat} (I:Inv X pins σ H s) (u:Un X.fs [] H H' s.heap h') (hok:HOk X.prog X.w H' h'):Inv X pins σ H' { s with heap:=h',toks:=t' }:=by
 obtain ⟨m,⟨o,es,ep,ho,r⟩,_⟩:=id I.loc;obtain ⟨sl,hL⟩:=u.any ho I.free (by simp);exact I.step (g':=s.gens) (d':=s.drawn) (ch:=[]) (fun _ z=>nomatch z) (fun b o _ hb _ e n=>u.keep b o e n hb (by simp)) (fun b o _ hb _ e n=>u.slot b o e n hb (by simp)) (fun b o _ e n=>u.free b o e n (by simp)) (fun b o _ e=>u.there b o e (by simp)) u.tups u.frzs u.tbls (fun m' hm=>by
   obtain ⟨o',es',ep',ho',r'⟩:=hm;rw [ho] at ho';cases ho';exact ⟨_,es',ep',hL,r'⟩) hok I.bare
theorem Inv.call {g':Array GenState} {t':Nat} {d':Drawn} {ch:List Addr} (I:Inv X pins σ H s) (u:Un (frs X.stack) ch H H' s.heap h') (hok:HOk X.prog X.w H' h') (hg:AllBare g')
   (hch:∀ b∈ch,(b∈X.ex\/X.s₀.heap.objs.size<=b)/\b≠X.env.locals/\(∀ x c,X.env.cells.lookup x=some c->c≠b)/\∀ p∈X.pn++pins,p.1≠b) :
   Inv X pins σ H' { s with heap:=h',gens:=g',drawn:=d',toks:=t' }:=by
 obtain ⟨m,⟨o,es,ep,ho,r⟩,_⟩:=id I.loc;obtain ⟨sl,hL⟩:=u.any ho I.free fun z=>(hch _ z).2.1 rfl;exact I.step (ch:=ch) hch (fun b o hL hb hc e n=>u.keep b o e n (fun z=>(List.mem_cons.mp (I.stkSub b z)).elim hL hb) hc) (fun b o _ _ hc e n=>u.any e n hc) (fun b o hc e n=>u.free b o e n hc) (fun b o hc e=>u.there b o e hc) u.tups u.frzs u.tbls (fun m' hm=>by
   obtain ⟨o',es',ep',ho',r'⟩:=hm;rw [ho] at ho';cases ho';exact ⟨_,es',ep',hL,r'⟩) hok hg
theorem Inv.turned {t':Nat} {it:Addr} (I:Inv X pins σ H s) (k:∀ b o,b≠it->s.heap.get? b=some o->h'.get? b=some o) (hn:H it=none) (hL:it≠X.env.locals)
   (h1:it∈X.ex\/X.s₀.heap.objs.size<=it) (h2:∀ x c,X.env.cells.lookup x=some c->c≠it) (h3:∀ p∈X.pn++pins,p.1≠it):Inv X pins σ H { s with heap:=h',toks:=t' }:=by
 have nit:∀ b u,H b=some u->b≠it:=fun b u e z=>by rw [z,hn] at e;cases e
 refine I.step (g':=s.gens) (d':=s.drawn) (ch:=[it]) (fun b hb=>?_) (fun b o _ _ hc e _=>k b o (fun z=>hc (by simp [z])) e) (fun b o _ _ hc e _=>⟨o.slots,k b o (fun z=>hc (by simp [z])) e⟩) (fun _ _ _ _ n=>n)
   (fun b o hc e=>⟨o,k b o (fun z=>hc (by simp [z])) e⟩) (fun _ _ e=>e) (fun _ _ _ e=>e) (fun b ps e=>⟨#[],by rw [e];simp⟩) (fun m hm=>?_) (fun b u e=>?_) I.bare
 . have e:b=it:=by simpa using hb
   subst e;exact ⟨h1,hL,h2,h3⟩
 . obtain ⟨o,es,ep,ho,r⟩:=hm;exact ⟨o,es,ep,k _ o (Ne.symm hL) ho,r⟩
 . refine (I.hok b u e).stay (fun c v hc q=>k c v ?_ q) (fun _ q=>q) fun _ _ q=>q;rcases hc with z|z
   . rw [z];exact nit b u e
   . exact nit c _ z
theorem Inv.tok (I:Inv X pins σ H s) (t:Nat):Inv X pins σ H { s with toks:=t }:=I.un (h':=s.heap) (t':=t) Un.refl I.hok
theorem Inv.kept {t':Nat} (I:Inv X pins σ H s) (k:∀ b u,s.heap.get? b=some u->h'.get? b=some u):Inv X pins σ H { s with heap:=h',toks:=t' }:=I.un (Un.kept k) (I.hok.kept k)
theorem Inv.laid {a:Addr} {o:HO} {t':Nat} (I:Inv X pins σ H s) (k:∀ b u,s.heap.get? b=some u->h'.get? b=some u) (hp:s.heap.objs.size<=a) (new:ObjOk X.prog X.w (upd H a o) h' a o) :
   Inv X pins σ (upd H a o) { s with heap:=h',toks:=t' }:=I.un (Un.laid k hp (I.hok.fresh hp)) (I.hok.laid k hp new)
theorem Inv.write {x e:Addr} {o:HO} {t':Nat} (I:Inv X pins σ H s) (mu:Mut (H x)) (he:e=x\/H e=some (.own x)) (k:∀ b u,b≠e->s.heap.get? b=some u->h'.get? b=some u) (heo:∃ u,h'.get? e=some u)
   (new:ObjOk X.prog X.w (upd H x o) h' x o):Inv X pins σ (upd H x o) { s with heap:=h',toks:=t' }:=I.un (Un.write mu he k heo) (I.hok.write mu he k heo new)
theorem Inv.pins_of {pins':List (Addr × Obj)} (I:Inv X pins σ H s) (h:∀ p∈pins',s.heap.get? p.1=some p.2/\H p.1=none/\p.1≠X.env.locals/\p.1 ∉ X.fs/\∀ v,p.2.data≠.cell v):Inv X pins' σ H s :=
 ⟨I.ok,I.os,I.bare,I.base,I.loc,I.cell,I.free,I.freeC,fun p hp=>(List.mem_append.mp hp).elim (fun z=>I.pin p (List.mem_append_left _ z)) (h p),I.hok,I.len⟩
theorem qk {N:List Str} (hN:N.Nodup) {i j:Nat} {x:Str} (a:N[i]?=some x) (b:N[j]?=some x):i=j:=by
 obtain ⟨h1,e1⟩:=List.getElem?_eq_some_iff.mp a;obtain ⟨h2,e2⟩:=List.getElem?_eq_some_iff.mp b;exact (List.getElem_inj hN).mp (e1.trans e2.symm)
theorem oV {M:Model} {A:Around} {E:Value->Shared->Prop} {i:Nat} {x:Str} {v:V} {u:Value} {Q:Unit->Shared->Prop} (I:Inv X pins σ H s) (hN:X.N.Nodup) (hi:X.N[i]?=some x) (hx:Loc X.env.scope x) (r:RelV v u)
   (h:∀ s',Inv X pins (σ.set i (some v)) H s'->(∃ a,Heap.SameBut a s.heap s'.heap/\(a=X.env.locals\/X.env.cells.lookup x=some a))->Q () s') (hf:X.fn x=true\/X.env.scope.names.lookup x=some .local:=by first|exact .inl rfl|exact .inr rfl|assumption):wpAny M A (storeName X.env x u) Q E s:=by
 obtain ⟨m,hn,hl⟩:=id I.loc;have hcls:(X.env.scope.kind == .class || (X.env.scope.kind == .module && X.env.locals != X.env.globals))=false:=by rw [I.ok.kind];rfl
 have hiσ:i<σ.length:=by rw [I.len];exact (List.getElem?_eq_some_iff.mp hi).1
 have cne:=I.cne;have tracked:∀ {a:Addr} {h':Heap},(∃ o,s.heap.get? a=some o/\H a=none)->Heap.SameBut a s.heap h'->HOk X.prog X.w H h':=fun {a h'} ha hs b ob e=>by
   obtain ⟨_,_,hfree⟩:=ha;refine (I.hok b ob e).stay (fun c w' hc q=>(hs.2 c ?_).trans q) (fun _ q=>q) fun _ _ q=>q;rintro rfl;rcases hc with rfl|hc
   . rw [hfree] at e;cases e
   . rw [hfree] at hc;cases hc
 rcases hx with hk|hk
 . refine wpAny_storeName_local hk hn (fun h' hn' hs=>?_) hcls;obtain ⟨oL,_,_,hoL,_⟩:=id hn;refine h _ ⟨I.ok,I.os,I.bare,⟨fun b o e n hb hx=>?_,fun b o e n hb hx=>?_,I.base.free,fun b o e hx=>?_,I.base.tups,I.base.frzs,I.base.tbls⟩,⟨_,hn',fun j y v' e1 e2 e3=>?_⟩,fun y c e=>?_,I.free,I.freeC,fun p hp=>?_,tracked ⟨oL,hoL,I.free⟩ hs,by simpa using I.len⟩ ⟨_,hs,.inl rfl⟩
   . exact (hs.2 b (Nat.ne_of_lt (Nat.lt_of_lt_of_le (Heap.lt_size e) I.ok.above))).trans (I.base.keep b o e n hb hx)
   . obtain ⟨sl,e1⟩:=I.base.slot b o e n hb hx;exact ⟨sl,(hs.2 b (Nat.ne_of_lt (Nat.lt_of_lt_of_le (Heap.lt_size e) I.ok.above))).trans e1⟩
   . obtain ⟨o',e1⟩:=I.base.there b o e hx;exact ⟨o',(hs.2 b (Nat.ne_of_lt (Nat.lt_of_lt_of_le (Heap.lt_size e) I.ok.above))).trans e1⟩
   . by_cases hj:j=i
     . subst hj;rw [hi] at e1;cases e1;rw [List.getElem?_set_self hiσ] at e2;cases e2;exact ⟨u,r,.inl ⟨hk,by simp⟩⟩
     . rw [List.getElem?_set_ne (Ne.symm hj)] at e2;obtain ⟨u',r',q⟩:=hl j y v' e1 e2 e3;refine ⟨u',r',?_⟩;rcases q with ⟨k,e⟩|⟨k,c,e,z⟩
       . refine .inl ⟨k,?_⟩;have:y≠x:=fun e=>hj (qk hN e1 (e ▸ hi));simp [this,e]
       . exact .inr ⟨k,c,e,z.sameBut hs (cne y c e)⟩
   . obtain ⟨w',z⟩:=I.cell y c e;exact ⟨w',z.sameBut hs (cne y c e)⟩
   . obtain ⟨e,n,ne,nf,d⟩:=I.pin p hp;exact ⟨(hs.2 p.1 ne).trans e,n,ne,nf,d⟩
 . have hfn:X.fn x=true:=by
     rcases hf with z|z
     . exact z
     . rw [z] at hk;cases hk
   obtain ⟨c,hc⟩:=I.ok.has x (.inl hk);obtain ⟨w',z⟩:=I.cell x c hc;refine wpAny_storeName_cell I.ok.kind hk hc z (fun h' hc' hs=>?_);obtain ⟨oc,hoc,hocd⟩:=id z;refine h { s with heap:=h' } ⟨I.ok,I.os,I.bare,⟨fun b o e n hb hx=>?_,fun b o e n hb hx=>?_,I.base.free,fun b o e hx=>?_,I.base.tups,I.base.frzs,I.base.tbls⟩,⟨m,hn.sameBut hs (Ne.symm (cne x c hc)),fun j y v' e1 e2 e3=>?_⟩,fun y c' e=>?_,I.free,I.freeC,fun p hp=>?_,tracked ⟨oc,hoc,I.freeC x c hc⟩ hs,by simpa using I.len⟩ ⟨c,hs,.inr hc⟩
   . exact (hs.2 b (Nat.ne_of_lt (Nat.lt_of_lt_of_le (Heap.lt_size e) (I.ok.cab x c hfn hc)))).trans (I.base.keep b o e n hb hx)
   . obtain ⟨sl,e1⟩:=I.base.slot b o e n hb hx;exact ⟨sl,(hs.2 b (Nat.ne_of_lt (Nat.lt_of_lt_of_le (Heap.lt_size e) (I.ok.cab x c hfn hc)))).trans e1⟩
   . obtain ⟨o',e1⟩:=I.base.there b o e hx;exact ⟨o',(hs.2 b (Nat.ne_of_lt (Nat.lt_of_lt_of_le (Heap.lt_size e) (I.ok.cab x c hfn hc)))).trans e1⟩
   . by_cases hj:j=i
     . subst hj;rw [hi] at e1;cases e1;rw [List.getElem?_set_self hiσ] at e2;cases e2;exact ⟨u,r,.inr ⟨.inl hk,c,hc,hc'⟩⟩
     . rw [List.getElem?_set_ne (Ne.symm hj)] at e2;obtain ⟨u',r',q⟩:=hl j y v' e1 e2 e3;refine ⟨u',r',?_⟩;rcases q with q|⟨k,c',e,z'⟩
       . exact .inl q
       . refine .inr ⟨k,c',e,z'.sameBut hs ?_⟩;rintro rfl;exact hj (qk hN e1 (I.ok.inj _ _ _ e hc ▸ hi))
   . by_cases hcc:c'=c
     . subst hcc;exact ⟨_,hc'⟩
     . obtain ⟨w2,z2⟩:=I.cell y c' e;exact ⟨w2,z2.sameBut hs hcc⟩
   . obtain ⟨e,n,ne,nf,d⟩:=I.pin p hp;refine ⟨(hs.2 p.1 ?_).trans e,n,ne,nf,d⟩;intro q;rw [q,hoc] at e;have q':oc=p.2:=Option.some.inj e;exact d w' (by rw [<- q'];exact hocd)
theorem l6 {M:Model} {A:Around} {E:Value->Shared->Prop} {i:Nat} {x:Str} {v:V} {u:Value} {Q:Unit->Shared->Prop} (I:Inv X pins σ H s) (hN:X.N.Nodup) (hi:X.N[i]?=some x) (hx:Loc X.env.scope x) (r:RelV v u)
   (h:∀ s',Inv X pins (σ.set i (some v)) H s'->Q () s') (hf:X.fn x=true\/X.env.scope.names.lookup x=some .local:=by first|exact .inl rfl|exact .inr rfl|assumption):wpAny M A (storeName X.env x u) Q E s :=
 oV I hN hi hx r (fun s' I' _=>h s' I') hf
theorem Inv.call' {s':Shared} {ch:List Addr} (I:Inv X pins σ H s) (ho:s'.os=s.os) (u:Un (frs X.stack) ch H H' s.heap s'.heap) (hok:HOk X.prog X.w H' s'.heap) (hg:AllBare s'.gens)
   (hch:∀ b∈ch,(b∈X.ex\/X.s₀.heap.objs.size<=b)/\b≠X.env.locals/\(∀ x c,X.env.cells.lookup x=some c->c≠b)/\∀ p∈X.pn++pins,p.1≠b):Inv X pins σ H' s':=by
 obtain ⟨h',g',d',t',o'⟩:=s';have e:o'=s.os:=ho;subst e;exact I.call (g':=g') (t':=t') (d':=d') u hok hg hch
end
abbrev XK:=Value->Option Addr->Hp->Prop
abbrev St:=List (Option V)
abbrev VK:=V->Hp->Prop
abbrev TE:=St->Hp->VK->Prop
abbrev TT:=St->Hp->(Bool->Hp->Prop)->Prop
abbrev TA:=St->Hp->(List V->Hp->Prop)->Prop
structure Ends where
 nx:St->Hp->Prop
 rt:VK
 bk:St->Hp->Prop:=fun _ _=>False
 ct:St->Hp->Prop:=fun _ _=>False
abbrev TS:=Ends->St->Hp->Prop
def EP (X:Cx) (pins:List (Addr × Obj)) (σ:St) (Q:VK) (u:Value) (s':Shared):Prop:=∃ v H',Inv X pins σ H' s'/\RelV v u/\Q v H'
def TP (X:Cx) (pins:List (Addr × Obj)) (σ:St) (Q:Bool->Hp->Prop) (b:Bool) (s':Shared):Prop:=∃ H',Inv X pins σ H' s'/\Q b H'
def AP (X:Cx) (pins:List (Addr × Obj)) (σ:St) (Q:List V->Hp->Prop) (us:List Value) (s':Shared):Prop:=∃ vs H',Inv X pins σ H' s'/\Vals vs us/\Q vs H'
def SP (X:Cx) (pins:List (Addr × Obj)) (D:Ends) (f:Flow) (s':Shared):Prop :=
 match f with
 | .next=>∃ σ' H',Inv X pins σ' H' s'/\D.nx σ' H'
 | .brk=>∃ σ' H',Inv X pins σ' H' s'/\D.bk σ' H'
 | .cont=>∃ σ' H',Inv X pins σ' H' s'/\D.ct σ' H'
 | .ret u=>∃ v σ' H',Inv X pins σ' H' s'/\RelV v u/\D.rt v H'
def PE (X:Cx) (e:Expr) (t:TE):Prop :=
 ∀ (pins:List (Addr × Obj)) (s:Shared) (σ:St) (H:Hp) (Q:VK),Inv X pins σ H s->t σ H Q->wpAny (model X.prog X.w) X.A (eval e X.env) (EP X pins σ Q) X.xe s
def PT (X:Cx) (e:Expr) (t:TT):Prop :=
 ∀ (pins:List (Addr × Obj)) (s:Shared) (σ:St) (H:Hp) (Q:Bool->Hp->Prop),Inv X pins σ H s->t σ H Q->wpAny (model X.prog X.w) X.A (isTrue e X.env (eval e X.env)) (TP X pins σ Q) X.xe s
def PW (X:Cx) (e:Expr) (t:TT):Prop :=
 ∀ (whole:Sem Value) (pins:List (Addr × Obj)) (s:Shared) (σ:St) (H:Hp) (Q:Bool->Hp->Prop),Inv X pins σ H s->t σ H Q->wpAny (model X.prog X.w) X.A (isTrue e X.env whole) (TP X pins σ Q) X.xe s
theorem PW.pt {X:Cx} {e:Expr} {t:TT} (h:PW X e t):PT X e t:=h _
def PA (X:Cx) (es:List Expr) (t:TA):Prop :=
 ∀ (pos:Pos) (pins:List (Addr × Obj)) (s:Shared) (σ:St) (H:Hp) (Q:List V->Hp->Prop),Inv X pins σ H s->t σ H Q->wpAny (model X.prog X.w) X.A (spliced (backTo pos (starEach es X.env))) (AP X pins σ Q) X.xe s
def PS (X:Cx) (st:Stmt) (t:TS):Prop :=
 ∀ (pins:List (Addr × Obj)) (s:Shared) (σ:St) (H:Hp) (D:Ends),Inv X pins σ H s->t D σ H->wpAny (model X.prog X.w) X.A (exec st X.env) (SP X pins D) X.xe s
def PSs (X:Cx) (st:List Stmt) (t:TS):Prop :=
 ∀ (pins:List (Addr × Obj)) (s:Shared) (σ:St) (H:Hp) (D:Ends),Inv X pins σ H s->t D σ H->wpAny (model X.prog X.w) X.A (execs st X.env) (SP X pins D) X.xe s
theorem thn {α:Type} {t:Sem α} {Q Q':α->Shared->Prop} {M:Model} {A:Around} {E:Value->Shared->Prop} {s:Shared} (h:wpAny M A t Q E s) (hQ:∀ a s,Q a s->Q' a s):wpAny M A t Q' E s:=wpAny_mono h hQ fun _ _ x=>x
theorem bc {t:Sem Value} {X:Cx} {pins:List (Addr × Obj)} {σ:St} {Q:VK} {Q':Value->Shared->Prop} {M:Model} {A:Around} {E:Value->Shared->Prop} {s:Shared} (h:wpAny M A t (EP X pins σ Q) E s) (hQ:∀ u s v H,Inv X pins σ H s->RelV v u->Q v H->Q' u s):wpAny M A t Q' E s:=thn h fun u s ⟨v,H,I,r,q⟩=>hQ u s v H I r q
theorem oX {t:Sem (List Value)} {X:Cx} {pins:List (Addr × Obj)} {σ:St} {Q:List V->Hp->Prop} {Q':List Value->Shared->Prop} {M:Model} {A:Around} {E:Value->Shared->Prop} {s:Shared} (h:wpAny M A t (AP X pins σ Q) E s) (hQ:∀ u s v H,Inv X pins σ H s->Vals v u->Q v H->Q' u s):wpAny M A t Q' E s:=thn h fun u s ⟨v,H,I,r,q⟩=>hQ u s v H I r q
theorem oG {t:Sem Bool} {X:Cx} {pins:List (Addr × Obj)} {σ:St} {Q:Bool->Hp->Prop} {Q':Bool->Shared->Prop} {M:Model} {A:Around} {E:Value->Shared->Prop} {s:Shared} (h:wpAny M A t (TP X pins σ Q) E s) (hQ:∀ u s H,Inv X pins σ H s->Q u H->Q' u s):wpAny M A t Q' E s:=thn h fun u s ⟨H,I,q⟩=>hQ u s H I q
end L2
namespace L2
open PySem PySem.Spec PyProof.Rows
section
variable {X:Cx}
def sR (i:Nat):TE:=fun σ H Q=>∃ v,σ[i]?=some (some v)/\Q v H
def tC (v:V):TE:=fun _ H Q=>Q v H
theorem v6 {i:Nat} {x:Str} {pos:Pos} (hN:X.N[i]?=some x) (hv:Vis X.env.scope x) (hd:(x == ("__debug__":Str))=false:=by decide) (hcd:(x == ("__classdict__":Str))=false:=by decide):PE X (.Name x pos) (sR i):=by
 intro pins s σ H Q I h;obtain ⟨v,e,h⟩:=h;obtain ⟨m,hn,hl⟩:=I.loc;obtain ⟨u,r,l⟩:=hl i x v hN e hv;have fin:EP X pins σ Q u s:=⟨v,H,I,r,h⟩;rcases l with ⟨hk,hm⟩|⟨hk,c,hc,hcell⟩
 . exact wpAny_Name (wpAny_loadName_local I.ok.kind hk hn hm fin) hd
 . rcases hk with hk|hk
   . exact wpAny_Name (wpAny_loadName_cell I.ok.kind hk hc hcell fin) hd
   . exact wpAny_Name (wpAny_loadName_free I.ok.kind hk hc hcell fin hcd) hd
theorem ai {i j pos}:PE X (.Constant (.int i) j pos) (tC (.int i)):=fun _ _ _ H _ I h=>wpAny_Constant_int ⟨.int i,H,I.tok _,⟨_,rfl⟩,h⟩
theorem pC {b j pos}:PE X (.Constant (.bool b) j pos) (tC (.bl b)):=fun _ _ _ H _ I h=>Constant_bool ⟨.bl b,H,I,rfl,h⟩
theorem jb {j pos}:PE X (.Constant .none j pos) (tC .non):=fun _ _ _ H _ I h=>Constant_none ⟨.non,H,I,rfl,h⟩
theorem ar {x j pos}:PE X (.Constant (.str x) j pos) (tC (.str x)):=fun _ _ _ H _ I h=>Calls.Constant_str ⟨.str x,H,I.tok _,⟨_,rfl⟩,h⟩
def Gl (X:Cx) (x:Str):Prop:=X.env.kindOf x=some .globalImplicit
theorem jJ {E:Value->Shared->Prop} {pins:List (Addr × Obj)} {s:Shared} {σ:St} {H:Hp} {x:Str} {u:Value} {pos:Pos} {Q:Value->Shared->Prop} (I:Inv X pins σ H s) (hg:Gl X x) (hm:X.mg x=some u) (h:Q u s)
   (hd:(x == ("__debug__":Str))=false:=by decide):wpAny (model X.prog X.w) X.A (eval (.Name x pos) X.env) Q E s :=
 Calls.Name_function_global I.ok.kind hg (Calls.loadGlobal_global (by rw [I.ok.glob];exact I.mod.glob.keeps I.bk) hm h) hd
theorem lU {E:Value->Shared->Prop} {pins:List (Addr × Obj)} {s:Shared} {σ:St} {H:Hp} {x:Str} {u:Value} {pos:Pos} {Q:Value->Shared->Prop} (I:Inv X pins σ H s) (hg:Gl X x) (hm:X.mg x=none) (hv:bootBuiltins x=some u) (h:Q u s)
   (hn:x≠"__name__":=by decide) (hd:(x == ("__debug__":Str))=false:=by decide):wpAny (model X.prog X.w) X.A (eval (.Name x pos) X.env) Q E s:=by
 obtain ⟨mb,h1,h2⟩:=I.mod.blt;exact Calls.Name_function_global I.ok.kind hg (Calls.loadGlobal_builtin (by rw [I.ok.glob];exact I.mod.glob.keeps I.bk) hm (by rw [I.ok.blt];exact h1.keeps I.bk) ((h2 x hn).trans hv) h) hd
theorem d0 {x:Str} {v:V} {u:Value} {pos:Pos} (hg:Gl X x) (hm:X.mg x=some u) (r:RelV v u) (hd:(x == ("__debug__":Str))=false:=by decide):PE X (.Name x pos) (tC v) :=
 fun _ _ _ H _ I h=>jJ I hg hm ⟨v,H,I,r,h⟩ hd
theorem ya {x:Str} {v:V} {u:Value} {pos:Pos} (hg:Gl X x) (hm:X.mg x=none) (hv:bootBuiltins x=some u) (r:RelV v u) (hn:x≠"__name__":=by decide) (hd:(x == ("__debug__":Str))=false:=by decide):PE X (.Name x pos) (tC v) :=
 fun _ _ _ H _ I h=>lU I hg hm hv ⟨v,H,I,r,h⟩ hn hd
variable {a b:Expr} {ta tb:TE} {pos:Pos}
def PC (X:Cx) (op:CmpOp) (a b:Expr) (t:TE):Prop :=
 ∀ (pins:List (Addr × Obj)) (s:Shared) (σ:St) (H:Hp) (Q:VK),Inv X pins σ H s->t σ H Q ->
   wpAny (model X.prog X.w) X.A (eval a X.env) (fun v s₁=>wpAny (model X.prog X.w) X.A (eval b X.env) (fun u s₂=>wpAny (model X.prog X.w) X.A (compareOp op v u) (EP X pins σ Q) X.xe s₂) X.xe s₁) X.xe s
theorem Cc (b:Expr) {op:CmpOp} (h:op≠.In) (h2:op≠.NotIn):behindInMarks op b=false:=by
 have e1:(op == CmpOp.In)=false:=by cases op <;> first|rfl|exact absurd rfl h
 have e2:(op == CmpOp.NotIn)=false:=by cases op <;> first|rfl|exact absurd rfl h2
 cases b <;> simp [behindInMarks,e1,e2]
def BX (ta:TE):TE:=fun σ H Q=>ta σ H fun x H1=>Q (.bl (decide (x=.non))) H1
def zG (ta:TE):TE:=fun σ H Q=>ta σ H fun x H1=>Q (.bl (!decide (x=.non))) H1
theorem RelV.none_iff {x:V} {v:Value} (r:RelV x v):(v == Value.none)=decide (x=.non):=by
 cases x with
 | non=>cases r;rfl
 | bl _=>cases r;rfl
 | int _=>obtain ⟨t,rfl⟩:=r;rfl
 | str _=>obtain ⟨t,rfl⟩:=r;rfl
 | byt _=>obtain ⟨t,rfl⟩:=r;rfl
 | flt _=>obtain ⟨t,rfl⟩:=r;rfl
 | ref _=>cases r;rfl
 | ty _=>cases r;rfl
theorem EM {j pos'} (ha:PE X a ta):PC X .Is a (.Constant .none j pos') (BX ta):=by
 intro pins s σ H Q I h;refine bc (ha pins s σ H _ I h) fun v s1 x H1 I1 r1 q1=>?_;exact Constant_none (is_none_gen ⟨.bl _,H1,I1,by rw [r1.none_iff];rfl,q1⟩)
theorem DJ {j pos'} (ha:PE X a ta):PC X .IsNot a (.Constant .none j pos') (zG ta):=by
 intro pins s σ H Q I h;refine bc (ha pins s σ H _ I h) fun v s1 x H1 I1 r1 q1=>?_;exact Constant_none (isnot_none_gen ⟨.bl _,H1,I1,by rw [r1.none_iff];rfl,q1⟩)
def tB (t:TE):TT:=fun σ H Q=>t σ H fun x H1=>∃ c,x=.bl c/\Q c H1
theorem wG {op:CmpOp} {t:TE} (h:PC X op a b t) (h1:behindInMarks op b=false:=by first|exact Cc _ (by decide) (by decide)|rfl):PT X (.Compare a [op] [b] pos) (tB t):=by
 intro pins s σ H Q I hw;refine wpAny_isTrue_Compare1 (thn (h pins s σ H _ I hw) fun v s1 h1=>thn h1 fun u s2 h2=>thn h2 fun c s3 ⟨x,H1,I1,r1,q1⟩=>?_) h1;obtain ⟨d,rfl,q⟩:=q1;cases r1;exact wpAny_truthy_bool ⟨H1,I1,q⟩
theorem fQ {e:Expr} {t:TE} (h:PE X e t) (he:∀ whole,isTrue e X.env whole=(do let v <- whole;standAt e.pos;holding [v] (truthy v)):=by intro _;rfl):PT X e (tB t):=by
 intro pins s σ H Q I hw;refine isTrue_plain (bc (h pins s σ H _ I hw) fun v s1 x H1 I1 r1 q1=>?_) (he _);obtain ⟨d,rfl,q⟩:=q1;cases r1;exact wpAny_truthy_bool ⟨H1,I1,q⟩
variable {tA tB':TT} {ao:List Expr}
def BZ (t u:TT):TT:=fun σ H Q=>t σ H fun c H1=>if c=true then u σ H1 Q else Q false H1
def tOr (t u:TT):TT:=fun σ H Q=>t σ H fun c H1=>if c=true then Q true H1 else u σ H1 Q
def BW (t:TT):TT:=fun σ H Q=>t σ H fun c H1=>Q (!c) H1
theorem pJ (ha:PT X a tA):PW X (.BoolOp .And [a] pos) tA:=by
 intro wh pins s σ H Q I h;refine isTrue_and (thn (ha pins s σ H Q I h) fun c s1 e=>?_);cases c with
 | true=>exact isTrue_and_nil e
 | false=>exact e
theorem oN (ha:PT X a tA):PW X (.BoolOp .Or [a] pos) tA:=by
 intro wh pins s σ H Q I h;refine isTrue_or (thn (ha pins s σ H Q I h) fun c s1 e=>?_);cases c with
 | false=>exact isTrue_or_nil e
 | true=>exact e
theorem lO (ha:PT X a tA) (hb:PW X (.BoolOp .And (b::ao) pos) tB'):PW X (.BoolOp .And (a::b::ao) pos) (BZ tA tB'):=by
 intro wh pins s σ H Q I h;refine isTrue_and (oG (ha pins s σ H _ I h) fun c s1 H1 I1 q1=>?_);cases c with
 | true=>exact hb wh pins s1 σ H1 Q I1 q1
 | false=>exact ⟨H1,I1,q1⟩
theorem r9 (ha:PT X a tA) (hb:PW X (.BoolOp .Or (b::ao) pos) tB'):PW X (.BoolOp .Or (a::b::ao) pos) (tOr tA tB'):=by
 intro wh pins s σ H Q I h;refine isTrue_or (oG (ha pins s σ H _ I h) fun c s1 H1 I1 q1=>?_);cases c with
 | true=>exact ⟨H1,I1,q1⟩
 | false=>exact hb wh pins s1 σ H1 Q I1 q1
theorem fi (ha:PT X a tA):PT X (.UnaryOp .Not a pos) (BW tA):=by
 intro pins s σ H Q I h;exact isTrue_not (ha pins s σ H (fun c H1=>Q (!c) H1) I h)
def yV (ta tb:TE):TE:=fun σ H Q=>ta σ H fun x H1=>∃ c,x=.bl c/\if c=true then tb σ H1 Q else Q (.bl false) H1
def B6 (ta tb:TE):TE:=fun σ H Q=>ta σ H fun x H1=>∃ c,x=.bl c/\if c=true then Q (.bl true) H1 else tb σ H1 Q
def Dh (ta:TE):TE:=fun σ H Q=>ta σ H fun x H1=>∃ c,x=.bl c/\Q (.bl (!c)) H1
theorem A4 {op} {t:TE} (h:PE X a t):PE X (.BoolOp op [a] pos) t:=fun pins s σ H Q I hw=>BoolOp_one (h pins s σ H Q I hw)
theorem Et (ha:PE X a ta) (hb:PE X (.BoolOp .And (b::ao) pos) tb):PE X (.BoolOp .And (a::b::ao) pos) (yV ta tb):=by
 intro pins s σ H Q I h;refine BoolOp_and (bc (ha pins s σ H _ I h) fun v s1 x H1 I1 r1 q1=>?_);obtain ⟨c,rfl,q1⟩:=q1;cases r1;refine wpAny_truthy_bool ?_;cases c with
 | true=>exact hb pins s1 σ H1 Q I1 q1
 | false=>exact ⟨.bl false,H1,I1,rfl,q1⟩
theorem Fr (ha:PE X a ta) (hb:PE X (.BoolOp .Or (b::ao) pos) tb):PE X (.BoolOp .Or (a::b::ao) pos) (B6 ta tb):=by
 intro pins s σ H Q I h;refine BoolOp_or (bc (ha pins s σ H _ I h) fun v s1 x H1 I1 r1 q1=>?_);obtain ⟨c,rfl,q1⟩:=q1;cases r1;refine wpAny_truthy_bool ?_;cases c with
 | false=>exact hb pins s1 σ H1 Q I1 q1
 | true=>exact ⟨.bl true,H1,I1,rfl,q1⟩
def tIf (t:TT) (ta tb:TE):TE:=fun σ H Q=>t σ H fun c H1=>if c=true then ta σ H1 Q else tb σ H1 Q
end
end L2
namespace L2
open PySem PySem.Spec PyProof.Rows
def SqL (K:PySem.W.Frag) (H:Hp) (a:Addr) (xs:List V):Prop :=
 Rd H a (.lst xs) \/
   ∃ (o:Obj) (its:Array Value) (n:Nat),K.lookup a=some o/\o.cls=.type "list"/\o.dict=none/\o.data=.seq its n/\its.size<=sizeLine/\Vals xs its.toList
def SqT (K:PySem.W.Frag) (H:Hp) (a:Addr) (xs:List V):Prop :=
 Rd H a (.tup xs) \/
   ∃ (o:Obj) (its:Array Value) (n:Nat),K.lookup a=some o/\o.cls=.type "tuple"/\o.data=.seq its n/\its.size<=sizeLine/\Vals xs its.toList
def FG:Value->Option V
 | .none=>some .non
 | .bool b=>some (.bl b)
 | .int i _=>some (.int i)
 | .str x _=>some (.str x)
 | .bytes b _=>some (.byt b)
 | .float b _=>some (.flt b)
 | .ref a=>some (.ref a)
 | .type n=>some (.ty n)
 | _=>none
theorem RelV.abs {x:V} {u:Value} (r:RelV x u):FG u=some x:=by
 cases x with
 | non=>cases r;rfl
 | bl _=>cases r;rfl
 | int _=>obtain ⟨t,rfl⟩:=r;rfl
 | str _=>obtain ⟨t,rfl⟩:=r;rfl
 | byt _=>obtain ⟨t,rfl⟩:=r;rfl
 | flt _=>obtain ⟨t,rfl⟩:=r;rfl
 | ref _=>cases r;rfl
 | ty _=>cases r;rfl
theorem RelV.inj {x y:V} {u:Value} (r:RelV x u) (q:RelV y u):x=y:=Option.some.inj (r.abs.symm.trans q.abs)
theorem Vals.inj {xs ys:List V} {us:List Value} (h:Vals xs us) (h2:Vals ys us):xs=ys:=by
 induction h generalizing ys with
 | nil=>cases h2;rfl
 | cons r _ ih=>cases h2 with|cons r2 t2=>rw [r.inj r2,ih t2]
section
variable {X:Cx} {pins:List (Addr × Obj)} {σ:St} {H:Hp} {s:Shared} {a:Addr} {xs ys:List V}
theorem SqL.of {K:PySem.W.Frag} (h:H a=some (.lst xs)):SqL K H a xs:=.inl (.inl h)
theorem SqT.of {K:PySem.W.Frag} (h:H a=some (.tup xs)):SqT K H a xs:=.inl (.inl h)
theorem Inv.list (I:Inv X pins σ H s) (h:SqL X.K H a xs):∃ its:List Value,Vals xs its/\PlainL s.heap a its.toArray/\xs.length<=sizeLine:=by
 rcases h with h|⟨o,its,n,hk,hc,hd,hs,hz,r⟩
 . obtain ⟨z,its,n,r,e⟩:=h.ok I.hok;exact ⟨its,r,⟨_,n,e,rfl,rfl,rfl⟩,z⟩
 . refine ⟨its.toList,r,⟨o,n,I.kIn a o hk,hc,hd,by simpa using hs⟩,?_⟩;have e:=r.length;simp only [Array.length_toList] at e;omega
theorem Inv.tuple (I:Inv X pins σ H s) (h:SqT X.K H a xs):∃ its:List Value,Vals xs its/\IsTup s.heap a its.toArray/\xs.length<=sizeLine:=by
 rcases h with h|⟨o,its,n,hk,hc,hs,hz,r⟩
 . obtain ⟨z,its,r,p⟩:=h.ok I.hok;exact ⟨its,r,p,z⟩
 . refine ⟨its.toList,r,⟨o,I.kIn a o hk,hc,n,by simpa using hs⟩,?_⟩;have e:=r.length;simp only [Array.length_toList] at e;omega
theorem Inv.list_inj (I:Inv X pins σ H s) (h:SqL X.K H a xs) (h':SqL X.K H a ys):xs=ys:=by
 obtain ⟨its,r,⟨o,n,e,_,_,d⟩,_⟩:=I.list h;obtain ⟨its',r',⟨o',n',e',_,_,d'⟩,_⟩:=I.list h';rw [e] at e';cases e';rw [d] at d';injection d' with d1 _
 have:its=its':=by simpa using congrArg Array.toList d1
 subst this;exact r.inj r'
theorem Inv.tuple_inj (I:Inv X pins σ H s) (h:SqT X.K H a xs) (h':SqT X.K H a ys):xs=ys:=by
 obtain ⟨its,r,⟨o,e,_,n,d⟩,_⟩:=I.tuple h;obtain ⟨its',r',⟨o',e',_,n',d'⟩,_⟩:=I.tuple h';rw [e] at e';cases e';rw [d] at d';injection d' with d1 _
 have:its=its':=by simpa using congrArg Array.toList d1
 subst this;exact r.inj r'
end
abbrev Cx.wish (X:Cx) (E:Value->Shared->Prop):Cx:={ X with xe:=E }
abbrev Cx.nox (X:Cx):Cx:=X.wish fun _ _=>False
theorem Cx.Ok.wish {X:Cx} (ok:X.Ok) (E:Value->Shared->Prop):(X.wish E).Ok :=
 ⟨ok.mod,ok.kind,ok.glob,ok.blt,ok.above,ok.inj,ok.has,ok.cab,ok.hd,ok.frames,ok.stk,ok.exf,ok.bs,ok.bsz,ok.noex,ok.exfs,ok.funs,ok.frf⟩
theorem Cx.Ok.unwish {X:Cx} {E:Value->Shared->Prop} (ok:(X.wish E).Ok):X.Ok :=
 ⟨ok.mod,ok.kind,ok.glob,ok.blt,ok.above,ok.inj,ok.has,ok.cab,ok.hd,ok.frames,ok.stk,ok.exf,ok.bs,ok.bsz,ok.noex,ok.exfs,ok.funs,ok.frf⟩
section
variable {X:Cx} {pins:List (Addr × Obj)} {σ:St} {H:Hp} {s:Shared} {E:Value->Shared->Prop}
theorem Inv.wish (I:Inv X pins σ H s) (E:Value->Shared->Prop):Inv (X.wish E) pins σ H s:=⟨I.ok.wish E,I.os,I.bare,I.base,I.loc,I.cell,I.free,I.freeC,I.pin,I.hok,I.len⟩
theorem Inv.unwish (I:Inv (X.wish E) pins σ H s):Inv X pins σ H s:=⟨I.ok.unwish,I.os,I.bare,I.base,I.loc,I.cell,I.free,I.freeC,I.pin,I.hok,I.len⟩
theorem SP.unwish {D:Ends} {f:Flow} {s':Shared} (h:SP (X.wish E) pins D f s'):SP X pins D f s':=by
 cases f with
 | next=>obtain ⟨σ',H',I,q⟩:=h;exact ⟨σ',H',I.unwish,q⟩
 | brk=>obtain ⟨σ',H',I,q⟩:=h;exact ⟨σ',H',I.unwish,q⟩
 | cont=>obtain ⟨σ',H',I,q⟩:=h;exact ⟨σ',H',I.unwish,q⟩
 | ret u=>obtain ⟨v,σ',H',I,r,q⟩:=h;exact ⟨v,σ',H',I.unwish,r,q⟩
theorem PSs.nox {st:List Stmt} {t:TS} (h:PSs X.nox st t):PSs X st t:=fun pins s σ H D I hw =>
 wpAny_mono (h pins s σ H D (I.wish _) hw) (fun _ _ q=>q.unwish) fun _ _ z=>False.elim z
end
section
variable {X:Cx} {st:Stmt} {ao:List Stmt} {t u:TS} {e:Expr} {te:TE} {pos:Pos}
def tNext:TS:=fun D σ H=>D.nx σ H
def zx (t u:TS):TS:=fun D σ H=>t { D with nx:=u D } σ H
theorem aw:PSs X [] tNext:=fun _ _ σ H _ I h=>wpAny_execs_nil ⟨σ,H,I,h⟩
theorem ah (h1:PS X st t) (h2:PSs X ao u):PSs X (st::ao) (zx t u):=by
 intro pins s σ H D I h;refine wpAny_execs_cons (thn (h1 pins s σ H { D with nx:=u D } I h) fun f s1 q=>?_);cases f with
 | next =>
   obtain ⟨σ',H',I',q⟩:=q;exact h2 pins s1 σ' H' D I' q
 | ret v=>exact q
 | brk=>exact q
 | cont=>exact q
theorem aj (h1:PS X st t):PSs X [st] t:=by
 intro pins s σ H D I h;refine wpAny_execs_cons (thn (h1 pins s σ H D I h) fun f s1 q=>?_);cases f with
 | next=>exact wpAny_execs_nil q
 | ret v=>exact q
 | brk=>exact q
 | cont=>exact q
theorem Inv.quiet {pins:List (Addr × Obj)} {σ:St} {H:Hp} {s:Shared} (I:Inv X pins σ H s):interactive X.env=false:=by simp [interactive,I.ok.kind]
def yX (te:TE):TS:=fun D σ H=>te σ H fun _ H1=>D.nx σ H1
theorem cz (he:PE X e te) (hs:swapsWith e none pos.line X.env=pure false:=by rfl):PS X (.Expr e pos) (yX te):=by
 intro pins s σ H D I h;exact wpAny_Expr_any (bc (he pins s σ H _ I h) fun v s1 x H1 I1 r1 q1=>⟨σ,H1,I1,q1⟩) I.quiet hs
def Bm (te:TE):TS:=fun D σ H=>te σ H D.rt
theorem a9 (he:PE X e te):PS X (.Return (some e) pos) (Bm te):=by
 intro pins s σ H D I h;exact wpAny_Return_some (bc (he pins s σ H _ I h) fun v s1 x H1 I1 r1 q1=>⟨x,σ,H1,I1,r1,q1⟩)
def C3:TS:=fun D _ H=>D.rt .non H
def zw (c:TT) (t u:TS):TS:=fun D σ H=>c σ H fun b H1=>if b=true then t D σ H1 else u D σ H1
theorem ba {c:Expr} {a b:List Stmt} {tc:TT} (hc:PT X c tc) (ha:PSs X a t) (hb:PSs X b u):PS X (.If c a b pos) (zw tc t u):=by
 intro pins s σ H D I h;refine wpAny_If (oG (hc pins s σ H _ I h) fun d s1 H1 I1 q1=>?_);cases d with
 | true=>exact ha pins s1 σ H1 D I1 q1
 | false=>exact hb pins s1 σ H1 D I1 q1
def tNever:TS:=fun _ _ _=>False
theorem iC:PS X st tNever:=fun _ _ _ _ _ _ h=>h.elim
end
abbrev TG:=V->St->Hp->(St->Hp->Prop)->Prop
abbrev TGs:=List V->St->Hp->(St->Hp->Prop)->Prop
def PG (X:Cx) (target:Expr) (t:TG):Prop :=
 ∀ (pins:List (Addr × Obj)) (s:Shared) (σ:St) (H:Hp) (v:V) (u:Value) (Q:St->Hp->Prop),Inv X pins σ H s->RelV v u->t v σ H Q ->
   wpAny (model X.prog X.w) X.A (assign target X.env u) (fun _ s'=>∃ σ' H',Inv X pins σ' H' s'/\Q σ' H') X.xe s
def PGs (X:Cx) (ts:List Expr) (t:TGs):Prop :=
 ∀ (pins:List (Addr × Obj)) (s:Shared) (σ:St) (H:Hp) (vs:List V) (us:List Value) (Q:St->Hp->Prop),Inv X pins σ H s->Vals vs us->t vs σ H Q ->
   wpAny (model X.prog X.w) X.A (assignInOrder ((assignEach ts X.env).map (·.2)) us) (fun _ s'=>∃ σ' H',Inv X pins σ' H' s'/\Q σ' H') X.xe s
abbrev y8:=V->V->V->Hp->(Hp->Prop)->Prop
def EN (X:Cx) (t:y8):Prop :=
 ∀ (pins:List (Addr × Obj)) (s:Shared) (σ:St) (H:Hp) (o i v:V) (ov iv u:Value) (Q:Hp->Prop),Inv X pins σ H s->RelV o ov->RelV i iv->RelV v u->t o i v H Q ->
   wpAny (model X.prog X.w) X.A (setItem ov iv u) (fun _ s'=>∃ H',Inv X pins σ H' s'/\Q H') X.xe s
abbrev TIp:=V->V->Hp->VK->Prop
section
variable {X:Cx} {pos:Pos}
def pF (i:Nat):TG:=fun v σ H Q=>Q (σ.set i (some v)) H
theorem cj {i:Nat} {x:Str} (hN:X.N.Nodup) (hi:X.N[i]?=some x) (hx:Loc X.env.scope x) (hf:X.fn x=true\/X.env.scope.names.lookup x=some .local:=by first|exact .inl rfl|exact .inr rfl|assumption):PG X (.Name x pos) (pF i):=by
 intro pins s σ H v u Q I r h;exact wpAny_assign_Name (l6 I hN hi hx r (fun s' I'=>⟨_,H,I',h⟩) hf)
def Eb:TGs:=fun vs σ H Q=>vs=[]/\Q σ H
def Dn (t:TG) (u:TGs):TGs:=fun vs σ H Q=>∃ v r,vs=v::r/\t v σ H fun σ' H'=>u r σ' H' Q
def EL (K:PySem.W.Frag) (n:Nat) (t:TGs):TG:=fun v σ H Q=>∃ a xs,v=.ref a/\SqT K H a xs/\xs.length=n/\t xs σ H Q
def Bk (to ti:TE) (t:y8):TG:=fun v σ H Q=>to σ H fun o H1=>ti σ H1 fun i H2=>t o i v H2 fun H3=>Q σ H3
theorem E7 {o i:Expr} {to ti:TE} {t:y8} (ho:PE X o to) (hi:PE X i ti) (hs:EN X t)
   (ha:∀ v,assign (.Subscript o i pos) X.env v=(do
     let ov <- holding [v] (eval o X.env)
     let iv <- holding [v,ov] (eval i X.env)
     standAt pos
     holding [v,ov,iv] (setItem ov iv v)
     release [v,ov,iv] []):=by intro _;rfl):PG X (.Subscript o i pos) (Bk to ti t):=by
 intro pins s σ H v u Q I r h;rw [ha];refine wpAny_bind (wpAny_holding (bc (ho pins s σ H _ I h) fun ov s1 x H1 I1 r1 q1=>?_));refine wpAny_bind (wpAny_holding (bc (hi pins s1 σ H1 _ I1 q1) fun iv s2 y H2 I2 r2 q2=>?_));refine wpAny_bind (wpAny_standAt (wpAny_bind (wpAny_holding (thn (hs pins s2 σ H2 x y v ov iv u _ I2 r1 r2 r q2) fun _ s3 ⟨H3,I3,q3⟩=>?_))));exact wpAny_release ⟨σ,H3,I3,q3⟩
def tM (te:TE) (g:TG):TS:=fun D σ H=>te σ H fun x H1=>g x σ H1 D.nx
theorem E4 {tg e:Expr} {te:TE} {g:TG} (he:PE X e te) (hg:PG X tg g) (hs:swapsWithSole [tg] e pos.line X.env=pure false:=by rfl) (hw:swappedStores [tg] e X.env=pure none:=by rfl)
   (h1:(assignEach [tg] X.env).map (·.2)=[assign tg X.env]:=by rfl):PS X (.Assign [tg] e pos) (tM te g):=by
 intro pins s σ H D I h;refine wpAny_Assign_stores (bc (he pins s σ H _ I h) fun v s1 x H1 I1 r1 q1=>?_) hs hw;rw [h1];exact thn (hg pins s1 σ H1 x v _ I1 r1 q1) fun _ s2 q=>q
theorem aI {i:Nat} {x:Str} {e:Expr} {te:TE} {pos':Pos} (hN:X.N.Nodup) (hi:X.N[i]?=some x) (hx:Loc X.env.scope x) (he:PE X e te) (hs:swapsWith e (some (.Name x pos')) pos.line X.env=pure false:=by rfl) (hf:X.fn x=true\/X.env.scope.names.lookup x=some .local:=by first|exact .inl rfl|exact .inr rfl|assumption) :
   PS X (.Assign [.Name x pos'] e pos) (tM te (pF i)):=by
 intro pins s σ H D I h;refine wpAny_Assign_Name (bc (he pins s σ H _ I h) fun v s1 y H1 I1 r1 q1=>?_) hs;exact l6 I1 hN hi hx r1 (fun s2 I2=>⟨_,H1,I2,q1⟩) hf
def Fc (i:Nat) (te:TE) (ti:TIp):TS:=fun D σ H=>∃ x,σ[i]?=some (some x)/\te σ H fun y H1=>ti x y H1 fun z H2=>D.nx (σ.set i (some z)) H2
def C8 (to ti te:TE) (tget:V->V->Hp->VK->Prop) (tip:TIp) (tset:y8):TS:=fun D σ H=>to σ H fun o H1=>ti σ H1 fun i H2=>tget o i H2 fun x H3=>te σ H3 fun y H4=>tip x y H4 fun z H5=>tset o i z H5 fun H6=>D.nx σ H6
def ipI (f:Int->Int->Int):TIp:=fun x y H Q=>∃ i j,x=.int i/\y=.int j/\Q (.int (f i j)) H
end
section
variable {X:Cx} {pos:Pos}
def A2 (c:TT) (tb:TS):TS:=fun D σ H=>∃ W:Nat->St->Hp->Prop,(∃ m,W m σ H)/\∀ m σ H,W m σ H ->
 c σ H fun b H1=>if b=true then ∃ N:St->Hp->Prop,(∀ σ' H',N σ' H'->∃ m',m'<m/\W m' σ' H')/\tb { D with nx:=N,ct:=N,bk:=D.nx } σ H1 else D.nx σ H1
theorem CW {c:Expr} {body:List Stmt} {tc:TT} {tb:TS} (hp:PassesOwn (model X.prog X.w) X.A X.env X.xe) (hc:PT X c tc) (hb:PSs X body tb):PS X (.While c body [] pos) (A2 tc tb):=by
 intro pins s σ H D I h;obtain ⟨W,⟨m0,w0⟩,turn⟩:=h;refine wpAny_While (codeAny_whileLoop (fun n s'=>∃ σ' H',Inv X pins σ' H' s'/\W n σ' H') ?_ m0 ⟨σ,H,I,w0⟩);rintro n s1 ⟨σ1,H1,I1,w1⟩;refine wpAny_passesOwn hp (oG (hc pins s1 σ1 H1 _ I1 (turn n σ1 H1 w1)) fun b s2 H2 I2 q2=>?_);cases b with
 | true =>
   obtain ⟨N,hN,q2⟩:=q2;rw [if_pos rfl];refine wpAny_passesOwn hp (thn (hb pins s2 σ1 H2 _ I2 q2) fun f s3 q3=>?_);cases f with
   | next =>
     obtain ⟨σ3,H3,I3,n3⟩:=q3;obtain ⟨m',hm,w3⟩:=hN σ3 H3 n3;exact ⟨m',hm,σ3,H3,I3,w3⟩
   | cont =>
     obtain ⟨σ3,H3,I3,n3⟩:=q3;obtain ⟨m',hm,w3⟩:=hN σ3 H3 n3;exact ⟨m',hm,σ3,H3,I3,w3⟩
   | brk=>exact q3
   | ret v=>exact q3
 | false =>
   rw [if_neg Bool.false_ne_true];exact wpAny_execs_nil ⟨σ1,H2,I2,q2⟩
end
structure It where
 go:Nat->Hp->Prop
 yld:Nat->Hp->V->Hp->Prop
 stop:Nat->Hp->Prop
def gK (X:Cx) (pins:List (Addr × Obj)) (H:Hp) (b:Addr):Prop :=
 H b=none/\b≠X.env.locals/\b ∉ X.fs/\(b∈X.ex\/X.s₀.heap.objs.size<=b)/\(∀ x c,X.env.cells.lookup x=some c->c≠b)/\∀ p∈X.pn++pins,p.1≠b
theorem Inv.fpOk {X:Cx} {pins:List (Addr × Obj)} {σ:St} {H H':Hp} {s:Shared} {b:Addr} (I:Inv X pins σ H s) (hb:s.heap.objs.size<=b) (hn:H' b=none):gK X pins H' b:=by
 refine ⟨hn,Nat.ne_of_gt (Nat.lt_of_lt_of_le I.lt hb),I.nofs hb,.inr (Nat.le_trans I.sz hb),fun x c e z=>?_,fun p hp z=>?_⟩
 . obtain ⟨v,q⟩:=I.cell x c e;exact absurd (Nat.lt_of_lt_of_le q.lt (by rw [z];exact hb)) (Nat.lt_irrefl _)
 . exact absurd (Nat.lt_of_lt_of_le (Heap.lt_size (I.pin p hp).1) (by rw [z];exact hb)) (Nat.lt_irrefl _)
structure Turn (P:Program) (w:World) (K:PySem.W.Frag) (tg:Expr) (J:It) (fp:List Addr) (it:Addr) (tn:Nat->Heap->Prop):Prop where
 mem:it∈fp
 obj:∀ i h,tn i h->∀ b∈fp,∃ o,h.get? b=some o/\∀ v,o.data≠.cell v
 keep:∀ i h h',tn i h->(∀ b∈fp,∀ o,h.get? b=some o->h'.get? b=some o)->tn i h'
 item:∀ (X:Cx),X.prog=P->X.w=w->X.K=K->X.calm=true->∀ (i:Nat) (pins:List (Addr × Obj)) (s:Shared) (σ:St) (H:Hp) (E:Value->Shared->Prop),Inv X pins σ H s->(∀ b∈fp,gK X pins H b)->tn i s.heap->J.go i H ->
   wpAny (model P w) X.A (pyNext (.ref it)) (fun r s1=>∃ u,r=some u /\
     wpAny (model P w) X.A (letOwnedTupleGo tg (.ref it) u) (fun _ s2=>∃ x H',Inv X pins σ H' s2/\RelV x u/\J.yld i H x H'/\tn (i+1) s2.heap/\∀ b∈fp,H' b=none) E s1) E s
 done:∀ (X:Cx),X.prog=P->X.w=w->X.K=K->X.calm=true->∀ (i:Nat) (pins:List (Addr × Obj)) (s:Shared) (σ:St) (H:Hp) (E:Value->Shared->Prop),Inv X pins σ H s->(∀ b∈fp,gK X pins H b)->tn i s.heap->J.stop i H ->
   wpAny (model P w) X.A (pyNext (.ref it)) (fun r s1=>r=none/\Inv X pins σ H s1) E s
 self:∀ (A:Around) (i:Nat) (s:Shared) (Q:Value->Shared->Prop) (E:Value->Shared->Prop),tn i s.heap->Q (.ref it) s->wpAny (model P w) A (pyIter (.ref it)) Q E s
abbrev TI:=St->Hp->(It->Hp->Prop)->Prop
def PIE (X:Cx) (pins:List (Addr × Obj)) (σ:St) (tg:Expr) (R:It->Hp->Prop) (itv:Value) (s2:Shared):Prop :=
 ∃ (it:Addr) (fp:List Addr) (tn:Nat->Heap->Prop) (J:It) (H':Hp),itv=.ref it/\Inv X pins σ H' s2/\Turn X.prog X.w X.K tg J fp it tn/\tn 0 s2.heap/\(∀ b∈fp,gK X pins H' b)/\R J H'
def PI (X:Cx) (tg iter:Expr) (wi:TI):Prop :=
 ∀ (pins:List (Addr × Obj)) (s:Shared) (σ:St) (H:Hp) (R:It->Hp->Prop),Inv X pins σ H s->wi σ H R ->
   wpAny (model X.prog X.w) X.A (eval iter X.env) (fun v s1=>wpAny (model X.prog X.w) X.A (pyIter v) (PIE X pins σ tg R) X.xe s1) X.xe s
theorem rV {M:Model} {A:Around} {E:Value->Shared->Prop} {s:Shared} {tg:Expr} {it:Addr} {u:Value} {o:Obj} {n:String} {vs:Array Value} {Q:Unit->Shared->Prop} (ho:s.heap.get? it=some o) (hc:o.cls=.type n) (hd:o.data=.fields vs)
   (hn:["enumerate","zip","dict_itemiterator","dict_reverseitemiterator","odict_iterator","itertools.zip_longest","itertools.pairwise"].contains n=false) (hQ:Q () s):wpAny M A (letOwnedTupleGo tg (.ref it) u) Q E s:=by
 unfold letOwnedTupleGo;cases tg <;> first
   | exact wpAny_pure hQ
   | (cases u <;> first
       | exact wpAny_pure hQ
       | (refine wpAny_bind (wpAny_load ho ?_)
          rw [hc,hd];show wpAny M A (if (["enumerate","zip","dict_itemiterator","dict_reverseitemiterator","odict_iterator","itertools.zip_longest","itertools.pairwise"].contains n && vs[0]? == some (rawInt _))=true then _ else _) Q E s;rw [if_neg (by intro h;rw [hn,Bool.false_and] at h;cases h)];exact wpAny_pure hQ))
def Itl (K:PySem.W.Frag) (a:Addr):It :=
 ⟨fun i H=>∃ xs x,SqL K H a xs/\xs[i]?=some x,fun i H x H'=>H'=H/\∀ xs,SqL K H a xs->xs[i]?=some x,fun i H=>∃ xs,SqL K H a xs/\xs.length<=i⟩
def Itt (K:PySem.W.Frag) (a:Addr):It :=
 ⟨fun i H=>∃ xs x,SqT K H a xs/\xs[i]?=some x,fun i H x H'=>H'=H/\∀ xs,SqT K H a xs->xs[i]?=some x,fun i H=>∃ xs,SqT K H a xs/\xs.length<=i⟩
def Itr (lo:Int) (n:Nat):It:=⟨fun i _=>i<n,fun i H x H'=>H'=H/\x=.int (lo+i),fun i _=>n<=i⟩
theorem zS {P:Program} {w:World} {K:PySem.W.Frag} {tg:Expr} (a it:Addr):Turn P w K tg (Itl K a) [it] it (fun i h=>h.IsListIter it a i) where
 mem:=by simp
 obj:=fun i h st b hb=>by
   have e:b=it:=by simpa using hb
   subst e;obtain ⟨o,e,c,d⟩:=st;exact ⟨o,e,fun v z=>by rw [d] at z;cases z⟩
 keep:=fun i h h' st k=>st.at fun o e=>k it (by simp) o e
 item:=by
   intro X hP hw hK hc i pins s σ H E I hf st hg;subst hP hw hK;obtain ⟨xs,x,hq,hx⟩:=hg;obtain ⟨its,rv,p,hz⟩:=I.list hq;obtain ⟨u,hu,ru⟩:=rv.get hx;obtain ⟨f0,f1,f2,f3,f4,f5⟩:=hf it (by simp);refine wpAny_pyNext_list_item st p.isList (x:=u) (by simpa using hu) fun h' st' sb=>?_;have I1:Inv X pins σ H { s with heap:=h' }:=I.turned (t':=s.toks) (fun b o hb e=>(sb.2 b hb).trans e) f0 f1 f3 f4 f5;obtain ⟨o,e,c,d⟩:=id st';exact ⟨u,rfl,rV (s:={ s with heap:=h' }) e c d (by decide) ⟨x,H,I1,ru,⟨rfl,fun ys hy=>by rw [I.list_inj hy hq];exact hx⟩,st',fun b hb=>(hf b hb).1⟩⟩
 done:=by
   intro X hP hw hK hc i pins s σ H E I hf st hg;subst hP hw hK;obtain ⟨xs,hq,hx⟩:=hg;obtain ⟨its,rv,p,hz⟩:=I.list hq;obtain ⟨f0,f1,f2,f3,f4,f5⟩:=hf it (by simp);have hl:=rv.length;exact wpAny_pyNext_list_end (I.ok.hd hc) st p.isList (by simp;omega) fun h' eb=>⟨rfl,I.turned (t':=s.toks) (fun b o hb e=>eb b o hb e) f0 f1 f3 f4 f5⟩
 self:=fun _ _ _ _ _ st h=>wpAny_pyIter_listiter st h
theorem yB {P:Program} {w:World} {K:PySem.W.Frag} {tg:Expr} (a it:Addr):Turn P w K tg (Itt K a) [it] it (fun i h=>h.IsTupleIter it a i) where
 mem:=by simp
 obj:=fun i h st b hb=>by
   have e:b=it:=by simpa using hb
   subst e;obtain ⟨o,e,c,d⟩:=st;exact ⟨o,e,fun v z=>by rw [d] at z;cases z⟩
 keep:=fun i h h' st k=>st.at fun o e=>k it (by simp) o e
 item:=by
   intro X hP hw hK hc i pins s σ H E I hf st hg;subst hP hw hK;obtain ⟨xs,x,hq,hx⟩:=hg;obtain ⟨its,rv,p,hz⟩:=I.tuple hq;obtain ⟨u,hu,ru⟩:=rv.get hx;obtain ⟨f0,f1,f2,f3,f4,f5⟩:=hf it (by simp);refine wpAny_pyNext_tuple_item st (show s.heap.IsTuple a its.toArray from p) (x:=u) (by simpa using hu) fun h' st' sb=>?_;have I1:Inv X pins σ H { s with heap:=h' }:=I.turned (t':=s.toks) (fun b o hb e=>(sb.2 b hb).trans e) f0 f1 f3 f4 f5;obtain ⟨o,e,c,d⟩:=id st';exact ⟨u,rfl,rV (s:={ s with heap:=h' }) e c d (by decide) ⟨x,H,I1,ru,⟨rfl,fun ys hy=>by rw [I.tuple_inj hy hq];exact hx⟩,st',fun b hb=>(hf b hb).1⟩⟩
 done:=by
   intro X hP hw hK hc i pins s σ H E I hf st hg;subst hP hw hK;obtain ⟨xs,hq,hx⟩:=hg;obtain ⟨its,rv,p,hz⟩:=I.tuple hq;obtain ⟨f0,f1,f2,f3,f4,f5⟩:=hf it (by simp);have hl:=rv.length;exact wpAny_pyNext_tuple_end (I.ok.hd hc) st (show s.heap.IsTuple a its.toArray from p) (by simp;omega) fun h' eb=>⟨rfl,I.turned (t':=s.toks) (fun b o hb e=>eb b o hb e) f0 f1 f3 f4 f5⟩
 self:=fun _ _ _ _ _ st h=>wpAny_pyIter_tupleiter st h
theorem yx {P:Program} {w:World} {K:PySem.W.Frag} {tg:Expr} (it:Addr) (lo:Int) (n:Nat):Turn P w K tg (Itr lo n) [it] it (fun i h=>IsRangeIter h it (lo+(i:Nat)*1) ((n:Int) - (i:Nat)) 1) where
 mem:=by simp
 obj:=fun i h st b hb=>by
   have e:b=it:=by simpa using hb
   subst e;exact ⟨_,st,fun v z=>by
     have z':Data.fields _=Data.cell v:=z;cases z'⟩
 keep:=fun i h h' st k=>k it (by simp) _ st
 item:=by
   intro X hP hw hK hc i pins s σ H E I hf st hg;subst hP hw hK;obtain ⟨f0,f1,f2,f3,f4,f5⟩:=hf it (by simp);have W:=Walks.range (prog:=X.prog) (w:=X.w) (I.ok.hd hc) it lo 1 n;refine W.item i s _ _ hg st fun v h' tk hv st' kk=>?_;obtain ⟨t,rfl⟩:=hv;have I1:Inv X pins σ H { s with heap:=h',toks:=tk }:=I.turned (fun b o hb e=>kk b o (by simpa using hb) e) f0 f1 f3 f4 f5;refine ⟨_,rfl,rV (s:={ s with heap:=h',toks:=tk }) (n:="range_iterator") st' rfl rfl (by decide) ⟨.int (lo+i),H,I1,⟨t,?_⟩,⟨rfl,rfl⟩,st',fun b hb=>(hf b hb).1⟩⟩;rw [Int.mul_one]
 done:=by
   intro X hP hw hK hc i pins s σ H E I hf st hg;subst hP hw hK;obtain ⟨f0,f1,f2,f3,f4,f5⟩:=hf it (by simp);exact wpAny_pyNext_range_end (I.ok.hd hc) st (by have:n<=i:=hg;omega) fun h' eb=>⟨rfl,I.turned (t':=s.toks) (fun b o hb e=>eb b o hb e) f0 f1 f3 f4 f5⟩
 self:=fun _ _ _ _ _ st h=>wpAny_pyIter_rangeiter st h
end L2
namespace L2
open PySem PySem.Spec PyProof.Rows
section
variable {X:Cx} {tg:Expr}
def zz (K:PySem.W.Frag) (tl:TE):TI:=fun σ H R=>tl σ H fun x H1=>∃ a,x=.ref a/\(∃ xs,SqL K H1 a xs)/\R (Itl K a) H1
def Bj (K:PySem.W.Frag) (tl:TE):TI:=fun σ H R=>tl σ H fun x H1=>∃ a,x=.ref a/\(∃ xs,SqT K H1 a xs)/\R (Itt K a) H1
theorem gg {l:Expr} {tl:TE} (hl:PE X l tl):PI X tg l (zz X.K tl):=by
 intro pins s σ H R I h;refine bc (hl pins s σ H _ I h) fun v s1 x H1 I1 r1 q1=>?_;obtain ⟨a,e,⟨xs,hq⟩,q⟩:=q1;subst e;cases r1;obtain ⟨its,rv,p,hz⟩:=I1.list hq;refine wpAny_pyIter_list p.isList ?_;refine ⟨s1.heap.objs.size,[s1.heap.objs.size],_,_,H1,rfl,I1.kept (t':=s1.toks) fun b o e=>Heap.get?_push_of_some _ e,zS a _,⟨_,Heap.get?_push_size _ rfl,rfl,rfl⟩,fun b hb=>?_,q⟩;have e:b=s1.heap.objs.size:=by simpa using hb
 subst e;exact I1.fpOk (Nat.le_refl _) (I1.hok.fresh (Nat.le_refl _))
theorem rY {l:Expr} {tl:TE} (hl:PE X l tl):PI X tg l (Bj X.K tl):=by
 intro pins s σ H R I h;refine bc (hl pins s σ H _ I h) fun v s1 x H1 I1 r1 q1=>?_;obtain ⟨a,e,⟨xs,hq⟩,q⟩:=q1;subst e;cases r1;obtain ⟨its,rv,p,hz⟩:=I1.tuple hq;refine wpAny_pyIter_tuple (show s1.heap.IsTuple a its.toArray from p) ?_;refine ⟨s1.heap.objs.size,[s1.heap.objs.size],_,_,H1,rfl,I1.kept (t':=s1.toks) fun b o e=>Heap.get?_push_of_some _ e,yB a _,⟨_,Heap.get?_push_size _ rfl,rfl,rfl⟩,fun b hb=>?_,q⟩;have e:b=s1.heap.objs.size:=by simpa using hb
 subst e;exact I1.fpOk (Nat.le_refl _) (I1.hok.fresh (Nat.le_refl _))
theorem Co {pins:List (Addr × Obj)} {σ:St} {H:Hp} {s:Shared} {R:It->Hp->Prop} {E:Value->Shared->Prop} {lo hi:Int} {t u v:Tok} {tk:Nat} (I:Inv X pins σ H s) (h1:-(2^62)<=lo) (h2:lo<2^62) (h3:-(2^62)<=hi) (h4:hi<2^62)
   (q:R (Itr lo (hi - lo).toNat) H):wpAny (model X.prog X.w) X.A (pyIter (.ref s.heap.objs.size)) (PIE X pins σ tg R) E { s with heap:=s.heap.push { cls:=.type "range",data:=.fields #[.int lo t,.int hi u,.int 1 v] },toks:=tk }:=by
 refine wpAny_pyIter_range (IsRange.new ..) (small_one h1 h2 h3 h4) ?_;have I1:Inv X pins σ H { s with heap:=s.heap.push { cls:=.type "range",data:=.fields #[.int lo t,.int hi u,.int 1 v] },toks:=tk }:=I.kept fun b o e=>Heap.get?_push_of_some _ e;refine ⟨(s.heap.push { cls:=.type "range",data:=.fields #[.int lo t,.int hi u,.int 1 v] }).objs.size,[(s.heap.push { cls:=.type "range",data:=.fields #[.int lo t,.int hi u,.int 1 v] }).objs.size],_,_,H,rfl,
   I1.kept (t':=tk) fun b o e=>Heap.get?_push_of_some _ e,yx _ lo (hi - lo).toNat,?_,fun b hb=>?_,q⟩
 . have e1:lo+((0:Nat):Int)*1=lo:=by simp
   have e2:(((hi - lo).toNat:Nat):Int) - ((0:Nat):Int)=Builtin.Range.rangeSize lo hi 1:=by rw [rangeSize_one];split <;> omega
   show IsRangeIter _ _ (lo+((0:Nat):Int)*1) ((((hi - lo).toNat:Nat):Int) - ((0:Nat):Int)) 1;rw [e1,e2];exact Heap.get?_push_size _ rfl
 . have e:b=(s.heap.push { cls:=.type "range",data:=.fields #[.int lo t,.int hi u,.int 1 v] }).objs.size:=by simpa using hb
   subst e;exact I1.fpOk (Nat.le_refl _) (I1.hok.fresh (Nat.le_refl _))
def zq (ta:TA):TI:=fun σ H R=>ta σ H fun vs H1=>∃ j:Int,vs=[.int j]/\-(2^62)<=j/\j<2^62/\R (Itr 0 j.toNat) H1
def Da (ta:TA):TI:=fun σ H R=>ta σ H fun vs H1=>∃ i j:Int,vs=[.int i,.int j]/\(-(2^62)<=i/\i<2^62/\-(2^62)<=j/\j<2^62)/\R (Itr i (j - i).toNat) H1
theorem uk {a:Expr} {ta:TA} {p pos:Pos} (hg:Gl X "range") (hm:X.mg "range"=none) (ha:PA X [a] ta) (hs:starEach [a] X.env=[(false,eval a X.env)]:=by rfl):PI X tg (.Call (.Name "range" p) [a] [] pos) (zq ta):=by
 intro pins s σ H R I h;refine Call_ (lU I hg hm boot_range (PyProof.Rows.callWith_type1 (oX (ha pos pins s σ H _ I h) fun us s1 vs H1 I1 r1 q1=>?_) hs rfl));obtain ⟨j,e,q1,q2,q⟩:=q1;subst e;cases r1 with
 | cons r rr =>
   cases rr;obtain ⟨t,rfl⟩:=r;exact call_range_1 (Co I1 (by omega) (by omega) q1 q2 (by simpa using q))
def Ec (wi:TI) (g:TG) (tb:TS):TS:=fun D σ H=>wi σ H fun J H1=>∃ W:Nat->Nat->St->Hp->Prop,(∃ m,W 0 m σ H1)/\∀ i m σ H,W i m σ H ->
 (J.stop i H/\D.nx σ H)\/(J.go i H/\∃ N:St->Hp->Prop,(∀ σ' H',N σ' H'->∃ m',m'<m/\W (i+1) m' σ' H')/\∀ x H',J.yld i H x H'->g x σ H' fun σ2 H2=>tb { D with nx:=N,ct:=N,bk:=D.nx } σ2 H2)
def dW (fp:List Addr) (h:Heap):List (Addr × Obj):=fp.filterMap fun b=>(h.get? b).map fun o=>(b,o)
theorem b9 {fp:List Addr} {h:Heap} {b:Addr} {o:Obj} (hb:b∈fp) (e:h.get? b=some o):(b,o)∈dW fp h:=List.mem_filterMap.mpr ⟨b,hb,by rw [e];rfl⟩
theorem AL {fp:List Addr} {h:Heap} {p:Addr × Obj} (hp:p∈dW fp h):p.1∈fp/\h.get? p.1=some p.2:=by
 obtain ⟨b,hb,e⟩:=List.mem_filterMap.mp hp;cases q:h.get? b with
 | none=>rw [q] at e;cases e
 | some o =>
   rw [q] at e;have e':(b,o)=p:=Option.some.inj e;subst e';exact ⟨hb,q⟩
theorem Inv.pinned {pins:List (Addr × Obj)} {σ:St} {H:Hp} {s:Shared} {fp:List Addr} (I:Inv X pins σ H s) (hf:∀ b∈fp,gK X pins H b) (ho:∀ b∈fp,∃ o,s.heap.get? b=some o/\∀ v,o.data≠.cell v):Inv X (pins++dW fp s.heap) σ H s :=
 I.pins_of fun p hp=>(List.mem_append.mp hp).elim (fun z=>I.pin p (List.mem_append_right _ z)) fun z=>by
   obtain ⟨hb,e⟩:=AL z;obtain ⟨f0,f1,f2,_⟩:=hf p.1 hb;obtain ⟨o,e',d⟩:=ho p.1 hb;rw [e] at e';cases e';exact ⟨e,f0,f1,f2,d⟩
theorem Inv.unpinned {pins pl:List (Addr × Obj)} {σ:St} {H:Hp} {s:Shared} (I:Inv X (pins++pl) σ H s):Inv X pins σ H s:=I.pins_of fun p hp=>I.pin p (List.mem_append_right _ (List.mem_append_left _ hp))
theorem gr {iter:Expr} {body:List Stmt} {wi:TI} {g:TG} {tb:TS} {pos:Pos} (hp:PassesOwn (model X.prog X.w) X.A X.env X.xe) (hc:X.calm=true) (hi:PI X tg iter wi) (hg:PG X tg g) (hb:PSs X body tb)
   (hs:∀ x,foldedSetIterable iter X.env x=pure x:=by intro _;rfl):PS X (.For tg iter body [] pos) (Ec wi g tb):=by
 intro pins s σ H D I h;refine wpAny_For (thn (hi pins s σ H _ I h) fun v s1 h1=>thn h1 fun itv s2 h2=>?_) hs;obtain ⟨it,fp,tn,J,H2,e,I2,T,st2,f2,W,⟨m0,w0⟩,turn⟩:=h2;subst e;have stat:∀ {H':Hp},(∀ b∈fp,H' b=none)->∀ b∈fp,gK X pins H' b:=fun hn b hb=>⟨hn b hb,(f2 b hb).2⟩;refine codeAny_forLoop_any (fun n s'=>∃ i σ' H',Inv X pins σ' H' s'/\tn i s'.heap/\(∀ b∈fp,H' b=none)/\W i n σ' H') ?_ m0 ⟨0,σ,H2,I2,st2,fun b hb=>(f2 b hb).1,w0⟩;rintro n s3 ⟨i,σ3,H3,I3,st3,fr3,w3⟩;rcases turn i n σ3 H3 w3 with ⟨stop,qn⟩|⟨go,N,hN,step⟩
 . refine wpAny_passesOwn hp (thn (T.done X rfl rfl rfl hc i pins s3 σ3 H3 X.xe I3 (stat fr3) st3 stop) fun r s4 ⟨hr,I4⟩=>?_);subst hr;exact wpAny_execs_nil ⟨σ3,H3,I4,qn⟩
 . refine wpAny_passesOwn hp (thn (T.item X rfl rfl rfl hc i pins s3 σ3 H3 X.xe I3 (stat fr3) st3 go) fun r s4 ⟨u,hr,h4⟩=>?_);subst hr;refine wpAny_passesOwn hp (thn h4 fun _ s5 ⟨x,H5,I5,r5,y5,st5,fr5⟩=>?_);have I5':=I5.pinned (stat fr5) (T.obj _ _ st5);refine wpAny_passesOwn hp (thn (hg _ s5 σ3 H5 x u _ I5' r5 (step x H5 y5)) fun _ s6 ⟨σ6,H6,I6,q6⟩=>?_);refine wpAny_passesOwn hp (thn (hb _ s6 σ6 H6 _ I6 q6) fun f s7 q7=>?_);have again:∀ {σ7:St} {H7:Hp},Inv X (pins++dW fp s5.heap) σ7 H7 s7->N σ7 H7->∃ m,m<n/\∃ i σ' H',Inv X pins σ' H' s7/\tn i s7.heap/\(∀ b∈fp,H' b=none)/\W i m σ' H':=fun {σ7 H7} I7 n7=>by
     obtain ⟨m',hm,w7⟩:=hN σ7 H7 n7;refine ⟨m',hm,i+1,σ7,H7,I7.unpinned,T.keep _ _ _ st5 fun b hb o e=>(I7.pin (b,o) (List.mem_append_right _ (List.mem_append_right _ (b9 hb e)))).1,fun b hb=>?_,w7⟩;obtain ⟨o,e,d⟩:=T.obj _ _ st5 b hb;exact (I7.pin (b,o) (List.mem_append_right _ (List.mem_append_right _ (b9 hb e)))).2.1
   cases f with
   | next=>obtain ⟨σ7,H7,I7,n7⟩:=q7;exact again I7 n7
   | cont=>obtain ⟨σ7,H7,I7,n7⟩:=q7;exact again I7 n7
   | brk=>obtain ⟨σ7,H7,I7,q7⟩:=q7;exact ⟨σ7,H7,I7.unpinned,q7⟩
   | ret v=>obtain ⟨x7,σ7,H7,I7,r7,q7⟩:=q7;exact ⟨x7,σ7,H7,I7.unpinned,r7,q7⟩
end
theorem BN {K:PySem.W.Frag} {a:Addr} {xs:List V} {g:TG} {tb:TS} {D:Ends} {σ:St} {H:Hp} (Pv:Nat->St->Hp->Prop) (h0:Pv 0 σ H) (hl:∀ i σ H,i<=xs.length->Pv i σ H->SqL K H a xs)
   (hs:∀ i x σ H,xs[i]?=some x->Pv i σ H->g x σ H fun σ2 H2=>tb { D with nx:=Pv (i+1),ct:=Pv (i+1),bk:=D.nx } σ2 H2) (hd:∀ σ H,Pv xs.length σ H->D.nx σ H) :
   ∃ W:Nat->Nat->St->Hp->Prop,(∃ m,W 0 m σ H)/\∀ i m σ H,W i m σ H ->
     ((Itl K a).stop i H/\D.nx σ H)\/((Itl K a).go i H/\∃ N:St->Hp->Prop,(∀ σ' H',N σ' H'->∃ m',m'<m/\W (i+1) m' σ' H')/\∀ x H',(Itl K a).yld i H x H'->g x σ H' fun σ2 H2=>tb { D with nx:=N,ct:=N,bk:=D.nx } σ2 H2):=by
 refine ⟨fun i m σ H=>m=xs.length - i/\i<=xs.length/\Pv i σ H,⟨xs.length,by simp,Nat.zero_le _,h0⟩,?_⟩;rintro i m σ H ⟨rfl,hi,p⟩;have q:=hl i σ H hi p;by_cases hlt:i<xs.length
 . refine .inr ⟨⟨xs,xs[i],q,by simp [hlt]⟩,Pv (i+1),fun σ' H' p'=>⟨xs.length - (i+1),by omega,rfl,hlt,p'⟩,fun x H' y=>?_⟩;obtain ⟨e,y⟩:=y;subst e;exact hs i x σ _ (y xs q) p
 . have e:i=xs.length:=by omega
   subst e;exact .inl ⟨⟨xs,q,Nat.le_refl _⟩,hd σ H p⟩
theorem tJ {K:PySem.W.Frag} {a:Addr} {xs:List V} {g:TG} {tb:TS} {D:Ends} {σ:St} {H:Hp} (Pv:Nat->St->Hp->Prop) (h0:Pv 0 σ H) (hl:∀ i σ H,i<=xs.length->Pv i σ H->SqT K H a xs)
   (hs:∀ i x σ H,xs[i]?=some x->Pv i σ H->g x σ H fun σ2 H2=>tb { D with nx:=Pv (i+1),ct:=Pv (i+1),bk:=D.nx } σ2 H2) (hd:∀ σ H,Pv xs.length σ H->D.nx σ H) :
   ∃ W:Nat->Nat->St->Hp->Prop,(∃ m,W 0 m σ H)/\∀ i m σ H,W i m σ H ->
     ((Itt K a).stop i H/\D.nx σ H)\/((Itt K a).go i H/\∃ N:St->Hp->Prop,(∀ σ' H',N σ' H'->∃ m',m'<m/\W (i+1) m' σ' H')/\∀ x H',(Itt K a).yld i H x H'->g x σ H' fun σ2 H2=>tb { D with nx:=N,ct:=N,bk:=D.nx } σ2 H2):=by
 refine ⟨fun i m σ H=>m=xs.length - i/\i<=xs.length/\Pv i σ H,⟨xs.length,by simp,Nat.zero_le _,h0⟩,?_⟩;rintro i m σ H ⟨rfl,hi,p⟩;have q:=hl i σ H hi p;by_cases hlt:i<xs.length
 . refine .inr ⟨⟨xs,xs[i],q,by simp [hlt]⟩,Pv (i+1),fun σ' H' p'=>⟨xs.length - (i+1),by omega,rfl,hlt,p'⟩,fun x H' y=>?_⟩;obtain ⟨e,y⟩:=y;subst e;exact hs i x σ _ (y xs q) p
 . have e:i=xs.length:=by omega
   subst e;exact .inl ⟨⟨xs,q,Nat.le_refl _⟩,hd σ H p⟩
theorem Ay {lo:Int} {n:Nat} {g:TG} {tb:TS} {D:Ends} {σ:St} {H:Hp} (Pv:Nat->St->Hp->Prop) (h0:Pv 0 σ H)
   (hs:∀ i σ H,i<n->Pv i σ H->g (.int (lo+i)) σ H fun σ2 H2=>tb { D with nx:=Pv (i+1),ct:=Pv (i+1),bk:=D.nx } σ2 H2) (hd:∀ σ H,Pv n σ H->D.nx σ H) :
   ∃ W:Nat->Nat->St->Hp->Prop,(∃ m,W 0 m σ H)/\∀ i m σ H,W i m σ H ->
     ((Itr lo n).stop i H/\D.nx σ H)\/((Itr lo n).go i H/\∃ N:St->Hp->Prop,(∀ σ' H',N σ' H'->∃ m',m'<m/\W (i+1) m' σ' H')/\∀ x H',(Itr lo n).yld i H x H'->g x σ H' fun σ2 H2=>tb { D with nx:=N,ct:=N,bk:=D.nx } σ2 H2):=by
 refine ⟨fun i m σ H=>m=n - i/\i<=n/\Pv i σ H,⟨n,by simp,Nat.zero_le _,h0⟩,?_⟩;rintro i m σ H ⟨rfl,hi,p⟩;by_cases hlt:i<n
 . refine .inr ⟨hlt,Pv (i+1),fun σ' H' p'=>⟨n - (i+1),by omega,rfl,hlt,p'⟩,fun x H' y=>?_⟩;obtain ⟨e,y⟩:=y;subst e y;exact hs i σ _ hlt p
 . have e:i=n:=by omega
   subst e;exact .inl ⟨Nat.le_refl _,hd σ H p⟩
end L2
namespace L2
open PySem PySem.Spec PyProof.Rows
abbrev R2:=V->V->Hp->VK->Prop
def OpR (X:Cx) (f:Value->Value->Sem Value) (r:R2):Prop :=
 ∀ (pins:List (Addr × Obj)) (s:Shared) (σ:St) (H:Hp) (x y:V) (v u:Value) (Q:VK),Inv X pins σ H s->RelV x v->RelV y u->r x y H Q ->
   wpAny (model X.prog X.w) X.A (f v u) (EP X pins σ Q) X.xe s
def dk (X:Cx) (f:Value) (r:List V->Hp->VK->Prop):Prop :=
 ∀ (pins:List (Addr × Obj)) (s:Shared) (σ:St) (H:Hp) (xs:List V) (us:List Value) (Q:VK),Inv X pins σ H s->Vals xs us->r xs H Q ->
   wpAny (model X.prog X.w) X.A (call f us) (EP X pins σ Q) X.xe s
def FE (X:Cx) (r:V->Hp->(Bool->Hp->Prop)->Prop):Prop :=
 ∀ (pins:List (Addr × Obj)) (s:Shared) (σ:St) (H:Hp) (x:V) (v:Value) (Q:Bool->Hp->Prop),Inv X pins σ H s->RelV x v->r x H Q ->
   wpAny (model X.prog X.w) X.A (truthy v) (TP X pins σ Q) X.xe s
def tOp (r:R2) (ta tb:TE):TE:=fun σ H Q=>ta σ H fun x H1=>tb σ H1 fun y H2=>r x y H2 Q
def tUn (r:V->Hp->VK->Prop) (ta:TE):TE:=fun σ H Q=>ta σ H fun x H1=>r x H1 Q
def rI (C:Int->Int->Prop) (g:Int->Int->V):R2:=fun x y H Q=>∃ i j,x=.int i/\y=.int j/\C i j/\Q (g i j) H
def rI0 (g:Int->Int->V):R2:=fun x y H Q=>∃ i j,x=.int i/\y=.int j/\Q (g i j) H
def rU (g:Int->V):V->Hp->VK->Prop:=fun x H Q=>∃ i,x=.int i/\Q (g i) H
section
variable {X:Cx} {a b c:Expr} {ta tb tc:TE} {pos:Pos}
theorem B3 (ha:PE X a ta) (hb:PE X b tb) {pins:List (Addr × Obj)} {s:Shared} {σ:St} {H:Hp} {R:V->V->Hp->Prop} (I:Inv X pins σ H s)
   (h:ta σ H fun x H1=>tb σ H1 fun y H2=>R x y H2) {Q:Value->Shared->Prop} {f:Value->Value->Sem Value}
   (hf:∀ v u s2 x y H2,Inv X pins σ H2 s2->RelV x v->RelV y u->R x y H2->wpAny (model X.prog X.w) X.A (f v u) Q X.xe s2) :
   wpAny (model X.prog X.w) X.A (eval a X.env) (fun v s₁=>wpAny (model X.prog X.w) X.A (eval b X.env) (fun u s₂=>wpAny (model X.prog X.w) X.A (f v u) Q X.xe s₂) X.xe s₁) X.xe s:=by
 refine bc (ha pins s σ H _ I h) fun v s1 x H1 I1 r1 q1=>?_;refine bc (hb pins s1 σ H1 _ I1 q1) fun u s2 y H2 I2 r2 q2=>?_;exact hf v u s2 x y H2 I2 r1 r2 q2
theorem ax {op:Operator} {r:R2} (ho:OpR X (binaryOp op) r) (ha:PE X a ta) (hb:PE X b tb):PE X (.BinOp a op b pos) (tOp r ta tb):=by
 intro pins s σ H Q I h;exact wpAny_BinOp (B3 ha hb I h fun v u s2 x y H2 I2 rx ry q=>ho pins s2 σ H2 x y v u Q I2 rx ry q)
theorem opI {f:Value->Value->Sem Value} {C:Int->Int->Prop} {g:Int->Int->Int}
   (rule:∀ (i j:Int) (t u:Tok) (s:Shared) (Q:Value->Shared->Prop) (E:Value->Shared->Prop),C i j->Q (.int (g i j) s.toks) { s with toks:=s.toks+1 }->wpAny (model X.prog X.w) X.A (f (.int i t) (.int j u)) Q E s) :
   OpR X f (rI C fun i j=>.int (g i j)):=by
 intro pins s σ H x y v u Q I rx ry h;obtain ⟨i,j,rfl,rfl,hc,q⟩:=h;obtain ⟨t,rfl⟩:=rx;obtain ⟨t',rfl⟩:=ry;exact rule i j t t' s _ _ hc ⟨.int (g i j),H,I.tok _,⟨_,rfl⟩,q⟩
theorem Ee {f:Value->Value->Sem Value} {g:Int->Int->Int}
   (rule:∀ (i j:Int) (t u:Tok) (s:Shared) (Q:Value->Shared->Prop) (E:Value->Shared->Prop),Q (.int (g i j) s.toks) { s with toks:=s.toks+1 }->wpAny (model X.prog X.w) X.A (f (.int i t) (.int j u)) Q E s) :
   OpR X f (rI0 fun i j=>.int (g i j)):=by
 intro pins s σ H x y v u Q I rx ry h;obtain ⟨i,j,rfl,rfl,q⟩:=h;obtain ⟨t,rfl⟩:=rx;obtain ⟨t',rfl⟩:=ry;exact rule i j t t' s _ _ ⟨.int (g i j),H,I.tok _,⟨_,rfl⟩,q⟩
theorem BE {f:Value->Value->Sem Value} {g:Int->Int->Bool}
   (rule:∀ (i j:Int) (t u:Tok) (s:Shared) (Q:Value->Shared->Prop) (E:Value->Shared->Prop),Q (.bool (g i j)) s->wpAny (model X.prog X.w) X.A (f (.int i t) (.int j u)) Q E s) :
   OpR X f (rI0 fun i j=>.bl (g i j)):=by
 intro pins s σ H x y v u Q I rx ry h;obtain ⟨i,j,rfl,rfl,q⟩:=h;obtain ⟨t,rfl⟩:=rx;obtain ⟨t',rfl⟩:=ry;exact rule i j t t' s _ _ ⟨.bl (g i j),H,I,rfl,q⟩
def Fx (i j:Int):Prop:=0<j/\j<1073741824
def FA (i j:Int):Prop:=0<=j/\j<=1000000/\i.natAbs<2^64
def CMul (i j:Int):Prop:=(-(2^64)<i/\i<2^64)\/(-(2^64)<j/\j<2^64)
theorem CMul.ok {i j:Int} (h:CMul i j):IntMulOk i j:=by
 rcases h with ⟨h1,h2⟩|⟨h1,h2⟩
 . exact .of_left (intBits_le_64 h1 h2)
 . exact .of_right (intBits_le_64 h1 h2)
theorem iK:OpR X (binaryOp .Add) (rI0 fun i j=>.int (i+j)):=Ee fun _ _ _ _ _ _ _ q=>add_int q
theorem AM:OpR X (binaryOp .Sub) (rI0 fun i j=>.int (i - j)):=Ee fun _ _ _ _ _ _ _ q=>sub_int q
theorem zT:OpR X (binaryOp .Mult) (rI CMul fun i j=>.int (i*j)):=opI fun _ _ _ _ _ _ _ hc q=>mul_int q hc.ok
theorem f6:OpR X (binaryOp .FloorDiv) (rI Fx fun i j=>.int (i / j)):=opI fun i j _ _ _ _ _ hc q=>by
 have h1:(0:Int)<j:=hc.1;have h2:j<1073741824:=hc.2;exact floordiv_int (by omega) (by rw [Int.fdiv_eq_ediv_of_nonneg i (by omega)];exact q) (.inl (PyProof.noPylong_small (by omega)))
theorem dC:OpR X (binaryOp .Mod) (rI (fun _ j=>0<j) fun i j=>.int (i % j)):=opI fun i j _ _ _ _ _ hc q=>by
 have h1:(0:Int)<j:=hc;exact mod_int' (by omega) (by rw [Int.fmod_eq_emod_of_nonneg i (by omega)];exact q)
theorem Em:OpR X (binaryOp .Pow) (rI FA fun i j=>.int (i^j.toNat)):=opI fun _ _ _ _ _ _ _ hc q=>pow_int_small hc.1 hc.2.1 hc.2.2 q
end
def o5:V->V->Bool
 | .non,.non=>true|.non,.int _=>true|.int _,.non=>true|.non,.bl _=>true|.bl _,.non=>true|.non,.str _=>true|.str _,.non=>true
 | .int _,.int _=>true|.bl _,.bl _=>true|.str _,.str _=>true|.byt _,.byt _=>true
 | .int _,.str _=>true|.str _,.int _=>true|.bl _,.str _=>true|.str _,.bl _=>true
 | _,_=>false
def rEq:R2:=fun x y H Q=>o5 x y=true/\Q (.bl (decide (x=y))) H
def rNe:R2:=fun x y H Q=>o5 x y=true/\Q (.bl (!decide (x=y))) H
theorem xQ {i j:Int}:decide (V.int i=V.int j)=(i == j):=by
 rw [Bool.eq_iff_iff];simp
theorem A6 {i j:Bool}:decide (V.bl i=V.bl j)=(i == j):=by
 rw [Bool.eq_iff_iff];simp
theorem yb {i j:Str}:decide (V.str i=V.str j)=(i == j):=by
 rw [Bool.eq_iff_iff];simp
theorem ye {i j:Array UInt8}:decide (V.byt i=V.byt j)=(i.toList == j.toList):=by
 rw [Bool.eq_iff_iff];cases i;cases j;simp
section
variable {X:Cx} {a b c:Expr} {ta tb tc:TE} {pos:Pos}
theorem aX {pins:List (Addr × Obj)} {σ:St} {H:Hp} {s:Shared} {Q:VK} {k k':Bool} (I:Inv X pins σ H s) (q:Q (.bl k) H) (e:k=k'):EP X pins σ Q (.bool k') s:=by
 subst e;exact ⟨.bl k,H,I,rfl,q⟩
theorem cQ:OpR X (compareOp .Eq) rEq:=by
 intro pins s σ H x y v u Q I rx ry h;obtain ⟨hs,q⟩:=h;cases x with
 | non =>
   cases rx;cases y with
   | non=>cases ry;exact PySem.EqNone.eq_none_none (aX I q (by simp))
   | bl j=>cases ry;exact PySem.EqNone.eq_none_bool (aX I q (by simp))
   | int j=>obtain ⟨t',rfl⟩:=ry;exact PySem.EqNone.eq_none_int (aX I q (by simp))
   | str j=>obtain ⟨t',rfl⟩:=ry;exact PySem.EqNone.eq_none_str (aX I q (by simp))
   | _=>exact absurd (show false=true from hs) Bool.false_ne_true
 | bl i =>
   cases rx;cases y with
   | non=>cases ry;exact PySem.EqNone.eq_bool_none (aX I q (by simp))
   | bl j=>cases ry;exact eq_bool (aX I q A6)
   | str j=>obtain ⟨t',rfl⟩:=ry;exact PySem.EqMixed.eq_bool_str (aX I q (by simp))
   | _=>exact absurd (show false=true from hs) Bool.false_ne_true
 | int i =>
   obtain ⟨t,rfl⟩:=rx;cases y with
   | non=>cases ry;exact PySem.EqNone.eq_int_none (aX I q (by simp))
   | int j=>obtain ⟨t',rfl⟩:=ry;exact eq_int (aX I q xQ)
   | str j=>obtain ⟨t',rfl⟩:=ry;exact PySem.EqMixed.eq_int_str (aX I q (by simp))
   | _=>exact absurd (show false=true from hs) Bool.false_ne_true
 | str i =>
   obtain ⟨t,rfl⟩:=rx;cases y with
   | non=>cases ry;exact PySem.EqNone.eq_str_none (aX I q (by simp))
   | bl j=>cases ry;exact PySem.EqMixed.eq_str_bool (aX I q (by simp))
   | int j=>obtain ⟨t',rfl⟩:=ry;exact PySem.EqMixed.eq_str_int (aX I q (by simp))
   | str j=>obtain ⟨t',rfl⟩:=ry;exact eq_str (aX I q yb)
   | _=>exact absurd (show false=true from hs) Bool.false_ne_true
 | byt i =>
   obtain ⟨t,rfl⟩:=rx;cases y with
   | byt j=>obtain ⟨t',rfl⟩:=ry;exact PySem.W.eq_bytes (aX I q ye)
   | _=>exact absurd (show false=true from hs) Bool.false_ne_true
 | _=>cases y <;> exact absurd (show false=true from hs) Bool.false_ne_true
theorem nD:OpR X (compareOp .NotEq) rNe:=by
 intro pins s σ H x y v u Q I rx ry h;obtain ⟨hs,q⟩:=h;cases x with
 | non =>
   cases rx;cases y with
   | non=>cases ry;exact PySem.EqNone.ne_none_none (aX I q (by simp))
   | bl j=>cases ry;exact PySem.EqNone.ne_none_bool (aX I q (by simp))
   | int j=>obtain ⟨t',rfl⟩:=ry;exact PySem.EqNone.ne_none_int (aX I q (by simp))
   | str j=>obtain ⟨t',rfl⟩:=ry;exact PySem.EqNone.ne_none_str (aX I q (by simp))
   | _=>exact absurd (show false=true from hs) Bool.false_ne_true
 | bl i =>
   cases rx;cases y with
   | non=>cases ry;exact PySem.EqNone.ne_bool_none (aX I q (by simp))
   | bl j=>cases ry;exact ne_bool (aX I q (congrArg not A6))
   | str j=>obtain ⟨t',rfl⟩:=ry;exact PySem.EqMixed.ne_bool_str (aX I q (by simp))
   | _=>exact absurd (show false=true from hs) Bool.false_ne_true
 | int i =>
   obtain ⟨t,rfl⟩:=rx;cases y with
   | non=>cases ry;exact PySem.EqNone.ne_int_none (aX I q (by simp))
   | int j=>obtain ⟨t',rfl⟩:=ry;exact ne_int (aX I q (congrArg not xQ))
   | str j=>obtain ⟨t',rfl⟩:=ry;exact PySem.EqMixed.ne_int_str (aX I q (by simp))
   | _=>exact absurd (show false=true from hs) Bool.false_ne_true
 | str i =>
   obtain ⟨t,rfl⟩:=rx;cases y with
   | non=>cases ry;exact PySem.EqNone.ne_str_none (aX I q (by simp))
   | bl j=>cases ry;exact PySem.EqMixed.ne_str_bool (aX I q (by simp))
   | int j=>obtain ⟨t',rfl⟩:=ry;exact PySem.EqMixed.ne_str_int (aX I q (by simp))
   | str j=>obtain ⟨t',rfl⟩:=ry;exact ne_str (aX I q (congrArg not yb))
   | _=>exact absurd (show false=true from hs) Bool.false_ne_true
 | byt i =>
   obtain ⟨t,rfl⟩:=rx;cases y with
   | byt j=>obtain ⟨t',rfl⟩:=ry;exact PySem.W.ne_bytes (aX I q (congrArg not ye))
   | _=>exact absurd (show false=true from hs) Bool.false_ne_true
 | _=>cases y <;> exact absurd (show false=true from hs) Bool.false_ne_true
theorem y6:OpR X (compareOp .Lt) (rI0 fun i j=>.bl (decide (i<j))):=BE fun _ _ _ _ _ _ _ q=>lt_int q
theorem jD:OpR X (compareOp .LtE) (rI0 fun i j=>.bl (decide (i<=j))):=BE fun _ _ _ _ _ _ _ q=>le_int q
theorem C4:OpR X (compareOp .Gt) (rI0 fun i j=>.bl (decide (j<i))):=BE fun _ _ _ _ _ _ _ q=>gt_int q
theorem AR:OpR X (compareOp .In) (fun x y H Q=>∃ i j,x=.str i/\y=.str j/\Q (.bl (!(Builtin.Str.occurrences j i 0 j.length 1).isEmpty)) H):=by
 intro pins s σ H x y v u Q I rx ry h;obtain ⟨i,j,rfl,rfl,q⟩:=h;obtain ⟨t,rfl⟩:=rx;obtain ⟨t',rfl⟩:=ry;exact in_str (aX I q rfl)
theorem aH (b:Expr) {op:CmpOp} (h:op≠.In:=by decide) (h2:op≠.NotIn:=by decide):behindInMarks op b=false:=by
 have e1:(op == CmpOp.In)=false:=by cases op <;> first|rfl|exact absurd rfl h
 have e2:(op == CmpOp.NotIn)=false:=by cases op <;> first|rfl|exact absurd rfl h2
 cases b <;> simp [behindInMarks,e1,e2]
theorem ft {op:CmpOp} {r:R2} (ho:OpR X (compareOp op) r) (ha:PE X a ta) (hb:PE X b tb) (hm:behindInMarks op b=false):PE X (.Compare a [op] [b] pos) (tOp r ta tb):=by
 intro pins s σ H Q I h;exact wpAny_Compare1 (B3 ha hb I h fun v u s2 x y H2 I2 rx ry q=>ho pins s2 σ H2 x y v u Q I2 rx ry q) hm
def vA (t:TE):TT:=fun σ H Q=>t σ H fun x H'=>∃ k,x=.bl k/\Q k H'
theorem aF {op:CmpOp} {r:R2} (ho:OpR X (compareOp op) r) (ha:PE X a ta) (hb:PE X b tb) (hm:behindInMarks op b=false):PT X (.Compare a [op] [b] pos) (vA (tOp r ta tb)):=by
 intro pins s σ H Q I h;refine wpAny_isTrue_Compare1 (bc (ha pins s σ H _ I h) fun v s1 x H1 I1 r1 q1=>bc (hb pins s1 σ H1 _ I1 q1) fun u s2 y H2 I2 r2 q2 =>
   bc (ho pins s2 σ H2 x y v u _ I2 r1 r2 q2) fun c s3 z H3 I3 r3 ⟨k,e,q3⟩=>?_) hm
 subst e;cases r3;exact wpAny_truthy_bool ⟨H3,I3,q3⟩
def rR (r r':R2) (ta tb tc:TE):TE:=fun σ H Q=>ta σ H fun x H1=>tb σ H1 fun y H2=>r x y H2 fun z H3=>∃ k,z=.bl k /\
 (if k=true then tc σ H3 fun w' H4=>r' y w' H4 Q else Q (.bl false) H3)
theorem B7 {op op':CmpOp} {r r':R2} (ho:OpR X (compareOp op) r) (ho':OpR X (compareOp op') r') (ha:PE X a ta) (hb:PE X b tb) (hc:PE X c tc)
   (hm:lastMarks [op,op'] [b,c]=false:=by with_unfolding_all rfl):PE X (.Compare a [op,op'] [b,c] pos) (rR r r' ta tb tc):=by
 intro pins s σ H Q I h;refine Compare_chain (bc (ha pins s σ H _ I h) fun v s1 x H1 I1 r1 q1=>chain_link (bc (hb pins s1 σ H1 _ I1 q1) fun u s2 y H2 I2 r2 q2 =>
   bc (ho pins s2 σ H2 x y v u _ I2 r1 r2 q2) fun d s3 z H3 I3 r3 ⟨k,e,q3⟩=>?_)) hm
 subst e;cases r3;refine wpAny_truthy_bool ?_;cases k with
 | false=>exact ite_ff ⟨.bl false,H3,I3,rfl,q3⟩
 | true=>exact ite_tt (chain_last (thn (hc pins s3 σ H3 _ I3 q3) fun w' s4 ⟨z',H4,I4,r4,q4⟩=>ho' pins s4 σ H4 y z' u w' Q I4 r2 r4 q4))
theorem nz {op op':CmpOp} {r r':R2} (ho:OpR X (compareOp op) r) (ho':OpR X (compareOp op') r') (ha:PE X a ta) (hb:PE X b tb) (hc:PE X c tc)
   (hm:lastMarks [op,op'] [b,c]=false:=by with_unfolding_all rfl):PT X (.Compare a [op,op'] [b,c] pos) (vA (rR r r' ta tb tc)):=by
 intro pins s σ H Q I h;refine isTrue_chain (bc (ha pins s σ H _ I h) fun v s1 x H1 I1 r1 q1=>test_link (bc (hb pins s1 σ H1 _ I1 q1) fun u s2 y H2 I2 r2 q2 =>
   bc (ho pins s2 σ H2 x y v u _ I2 r1 r2 q2) fun d s3 z H3 I3 r3 ⟨k,e,q3⟩=>?_)) hm
 subst e;cases r3;refine wpAny_truthy_bool ?_;cases k with
 | false =>
   obtain ⟨k',e',q'⟩:=q3;cases e';exact ite_ff ⟨H3,I3,q'⟩
 | true =>
   refine ite_tt (test_last (thn (hc pins s3 σ H3 _ I3 q3) fun w' s4 ⟨z',H4,I4,r4,q4⟩=>thn (ho' pins s4 σ H4 y z' u w' _ I4 r2 r4 q4) fun d' s5 ⟨z2,H5,I5,r5,k2,e2,q5⟩=>?_));subst e2;cases r5;exact wpAny_truthy_bool ⟨H5,I5,q5⟩
def CF (K:PySem.W.Frag) (x:V) (H:Hp) (k:Bool):Prop :=
 match x with
 | .non=>k=false
 | .bl b=>k=b
 | .int i=>k=(i != 0)
 | .str y=>y.length<=sizeLine/\k=((y.length:Int) != 0)
 | .byt y=>y.size<=sizeLine/\k=((y.size:Int) != 0)
 | .ref p=>(∃ xs,SqL K H p xs/\k=!xs.isEmpty)\/(∃ xs,SqT K H p xs/\k=!xs.isEmpty)\/∃ kvs,H p=some (.dK kvs)/\k=!kvs.isEmpty
 | _=>False
theorem yl {κ:Type} {kvs:List (κ × V)} {vs:List (κ × Value)} (r:KV kvs vs):(!vs.isEmpty)=!kvs.isEmpty:=by
 cases r <;> rfl
theorem sK {xs:List V} {its:List Value} (r:Vals xs its):(!its.toArray.isEmpty)=!xs.isEmpty:=by
 cases r <;> simp
theorem iU:(sizeLine:Nat)<2^63:=by rw [sizeLine_eq];decide
theorem EJ:FE X (fun x H Q=>∃ k,CF X.K x H k/\Q k H):=by
 intro pins s σ H x v Q I rx h;obtain ⟨k,e,q⟩:=h;have hl:=iU;have hs:sizeLine=16777216:=sizeLine_eq;cases x with
 | non =>
   cases rx;have e':k=false:=e;subst e';exact truthy_none ⟨H,I,q⟩
 | bl b =>
   cases rx;have e':k=b:=e;subst e';exact wpAny_truthy_bool ⟨H,I,q⟩
 | int i =>
   obtain ⟨t,rfl⟩:=rx;have e':k=(i != 0):=e;subst e';exact PySem.P.truthy_int ⟨H,I,q⟩
 | str y =>
   obtain ⟨t,rfl⟩:=rx;obtain ⟨hy,e'⟩:y.length<=sizeLine/\k=((y.length:Int) != 0):=e;subst e';exact PySem.P.truthy_str (by omega) ⟨H,I.tok _,q⟩
 | byt y =>
   obtain ⟨t,rfl⟩:=rx;obtain ⟨hy,e'⟩:y.size<=sizeLine/\k=((y.size:Int) != 0):=e;subst e';exact PySem.W.truthy_bytes (by omega) ⟨H,I.tok _,q⟩
 | ref p =>
   cases rx;have e':(∃ xs,SqL X.K H p xs/\k=!xs.isEmpty)\/(∃ xs,SqT X.K H p xs/\k=!xs.isEmpty)\/∃ kvs,H p=some (.dK kvs)/\k=!kvs.isEmpty:=e;rcases e' with ⟨xs,hx,e'⟩|⟨xs,hx,e'⟩|⟨kvs,hx,e'⟩
   . subst e';obtain ⟨its,r,pl,hz⟩:=I.list hx;have hlen:=r.length;exact wpAny_truthy_list pl.isList (by simp only [List.size_toArray];omega) ⟨H,I.tok _,by rw [sK r];exact q⟩
   . subst e';obtain ⟨its,r,pl,hz⟩:=I.tuple hx;have hlen:=r.length;exact truthy_tuple pl (by simp only [List.size_toArray];omega) ⟨H,I.tok _,by rw [sK r];exact q⟩
   . subst e';obtain ⟨hz,hS,vs,r,m⟩:kvs.length<=sizeLine/\(p == sysModules)=false/\∃ vs,KV kvs vs/\s.heap.DictOf (ce X.prog X.w) p vs:=I.hok p _ hx;have hlen:kvs.length=vs.length:=Paired.length r;exact wpAny_truthy_dict hS m (by omega) ⟨H,I.tok _,by rw [yl r];exact q⟩
 | _=>exact (show False from e).elim
theorem wn (ha:PE X a ta) (he:∀ whole,isTrue a X.env whole=(do let v <- whole;standAt a.pos;holding [v] (truthy v))) :
   PT X a (fun σ H Q=>ta σ H fun x H'=>∃ k,CF X.K x H' k/\Q k H'):=by
 intro pins s σ H Q I h;exact isTrue_plain (bc (ha pins s σ H _ I h) fun v s1 x H1 I1 r1 q1=>EJ pins s1 σ H1 x v Q I1 r1 q1) (he _)
theorem cW:OpR X (binaryOp .Add) (fun x y H Q=>∃ i j,x=.str i/\y=.str j/\i.length+j.length<=sizeLine/\Q (.str (i++j)) H):=by
 intro pins s σ H x y v u Q I rx ry h;obtain ⟨i,j,rfl,rfl,hz,q⟩:=h;obtain ⟨t,rfl⟩:=rx;obtain ⟨t',rfl⟩:=ry;exact add_str (fun t' tk=>⟨.str (i++j),H,I.tok _,⟨_,rfl⟩,q⟩) hz
theorem fo {x:V} {us:List Value} (r:Vals [x] us):∃ u,us=[u]/\RelV x u:=by
 cases r with
 | cons r1 r2=>cases r2;exact ⟨_,rfl,r1⟩
theorem zm {x y:V} {us:List Value} (r:Vals [x,y] us):∃ u w',us=[u,w']/\RelV x u/\RelV y w':=by
 cases r with
 | cons r1 r2 =>
   cases r2 with
   | cons r3 r4=>cases r4;exact ⟨_,_,rfl,r1,r3⟩
theorem AO (hc:X.calm=true):dk X (.builtin "max") (fun xs H Q=>∃ i j,xs=[.int i,.int j]/\Q (.int (if j > i then j else i)) H):=by
 intro pins s σ H xs us Q I r h;obtain ⟨i,j,rfl,q⟩:=h;obtain ⟨u,w',rfl,⟨t,rfl⟩,⟨t',rfl⟩⟩:=zm r;refine max_two_ints (I.ok.hd hc) fun h' tk k=>⟨_,H,I.kept k,?_,q⟩;by_cases hj:j > i
 . rw [if_pos hj,if_pos hj];exact ⟨_,rfl⟩
 . rw [if_neg hj,if_neg hj];exact ⟨_,rfl⟩
theorem A5:dk X (.type "int") (fun xs H Q=>(∃ i,xs=[.int i]/\Q (.int i) H)\/∃ k,xs=[.bl k]/\Q (.int (if k then 1 else 0)) H):=by
 intro pins s σ H xs us Q I r h;rcases h with ⟨i,rfl,q⟩|⟨k,rfl,q⟩
 . obtain ⟨u,rfl,t,rfl⟩:=fo r;exact call_int_int ⟨.int i,H,I,⟨_,rfl⟩,q⟩
 . obtain ⟨u,rfl,r1⟩:=fo r;cases r1;exact call_int_bool ⟨.int (if k then 1 else 0),H,I.tok _,⟨_,rfl⟩,q⟩
theorem wC:dk X (.type "str") (fun xs H Q=>∃ i,xs=[.int i]/\i.natAbs.log2<1920/\Q (.str (toString i)) H):=by
 intro pins s σ H xs us Q I r h;obtain ⟨i,rfl,hz,q⟩:=h;obtain ⟨u,rfl,t,rfl⟩:=fo r;exact PySem.P.str_of_int hz ⟨.str _,H,I.tok _,⟨_,rfl⟩,q⟩
end
end L2
namespace L2
open PySem PySem.Spec PyProof.Rows
structure ObjM (h:Heap) (x dx C:Addr) (mA:Str->Option Value):Prop where
 obj:h.get? x=some (PySem.W.instObj C dx)
 ns:h.Ns1 dx mA
 ne:dx≠x
theorem uL {h:Heap} {dx:Addr} {mA:Str->Option Value} (n:h.Ns1 dx mA):∃ od,h.get? dx=some od/\∀ name,PySem.W.lookIn name od=some (mA name):=by
 obtain ⟨o,es,ep,ho,hd,hk,_,hm⟩:=n;refine ⟨o,ho,fun name=>?_⟩;have e:=hm name;unfold nsFind findBy at e;rw [<- Array.find?_toList] at e;unfold PySem.W.lookIn;rw [hd];dsimp only;split
 . rename_i y q
   rw [q] at e;exact congrArg some e
 . rename_i q
   rw [q] at e;have a:es.toList.any (·.refKey)=false:=by
     rw [List.any_eq_false];intro y hy;obtain ⟨z,t,hkey⟩:=hk y (Array.mem_toList_iff.mp hy);simp [DictEntry.refKey,hkey]
   have a':¬ es.toList.any (·.refKey)=true:=by rw [a];exact Bool.false_ne_true
   rw [if_neg a'];exact congrArg some e
theorem ObjM.look {h:Heap} {x dx C:Addr} {mA:Str->Option Value} (I:ObjM h x dx C mA):∃ od,PySem.W.InstAt h x (PySem.W.instObj C dx) C (some od)/\∀ name,PySem.W.lookIn name od=some (mA name) :=
 let ⟨od,ho,hl⟩:=uL I.ns
 ⟨od,⟨I.obj,rfl,rfl,ho⟩,hl⟩
section
variable {prog:Program} {w:World} {A:Around} {E:Value->Shared->Prop} {s:Shared} {K:PySem.W.Frag} {x dx C f:Addr} {mA:Str->Option Value} {name:Str} {v:Value}
theorem D7 {ns:List Str} {Q:Unit->Shared->Prop} (X:K.In s.heap) (I:ObjM s.heap x dx C mA)
   (hs:PySem.W.findIn K (.ref C) "__setattr__"=some (some (.builtin "object.__setattr__"))) (hp:PySem.W.plainOver K C=true) (ht:PySem.W.takerIn K C name=some none) (hh:PySem.W.hasDictIn K C=true)
   (hw:PySem.Within mA ns) (hsz:ns.length<=sizeLine)
   (h:∀ h',ObjM h' x dx C (fun y=>if y=name then some v else mA y)->Heap.SameBut dx s.heap h'->Q () { s with heap:=h',toks:=s.toks+2 }) :
   wpAny (model prog w) A (setAttr (.ref x) name v) Q E s:=by
 obtain ⟨od,J,hl⟩:=I.look;refine PySem.W.set_plain X J hs (PySem.W.osa_open (s:={ s with toks:=s.toks+1 }) (r:=none) X J hp ht fun b=>?_);obtain ⟨cd,hc,hd'⟩:=PySem.W.any_some hh;have hx:s.heap.get? x=some ⟨.ref C,some dx,.plain,#[]⟩:=I.obj;refine wpAny_bind (wpAny_pure (wpAny_bind (wpAny_bind (wpAny_loadPart hx (wpAny_bind (PySem.W.Looks.here (s:={ s with toks:=s.toks+1 }) (PySem.W.looks_clsIn X hc) ?_))))));rw [hd'];refine wpAny_pure (a:=some dx) (wpAny_bind (wpAny_pure (wpAny_bind ?_)));refine wpAny_nsSet1 (s:={ s with toks:=s.toks+1 }) I.ns fun h' hn2 hs2=>?_;obtain ⟨oD,esD,epD,hoD,hdD,hcD⟩:=hn2.count (PySem.Within.cons name v hw);refine wpAny_bind (wpAny_lookBehind hoD (by rw [hdD];exact pastItsLine_dict (Nat.le_trans hcD (by rw [List.length_cons];omega))) ?_);exact wpAny_pure (h _ ⟨(hs2.2 _ (Ne.symm I.ne)).trans I.obj,hn2,I.ne⟩ hs2)
end
def eM (f:Str) (v:V):List (Str × V)->List (Str × V)
 | []=>[(f,v)]
 | (g,x)::r=>if g=f then (g,v)::r else (g,x)::eM f v r
theorem fP (f g:Str) (v:V):∀ fs:List (Str × V),(eM f v fs).lookup g=if g=f then some v else fs.lookup g
 | []=>by
   show List.lookup g [(f,v)]=_;by_cases h:g=f
   . have hb:(g == f)=true:=beq_iff_eq.mpr h;simp only [List.lookup,hb,if_pos h]
   . have hb:(g == f)=false:=beq_eq_false_iff_ne.mpr h;simp only [List.lookup,hb,if_neg h]
 | (k,x)::r=>by
   have ih:=fP f g v r;rw [show eM f v ((k,x)::r)=(if k=f then (k,v)::r else (k,x)::eM f v r) from rfl];by_cases hk:k=f
   . rw [if_pos hk];by_cases h:g=k
     . have hb:(g == k)=true:=beq_iff_eq.mpr h;simp only [List.lookup,hb,if_pos (h.trans hk)]
     . have hb:(g == k)=false:=beq_eq_false_iff_ne.mpr h;simp only [List.lookup,hb,if_neg (fun e:g=f=>h (e.trans hk.symm))]
   . rw [if_neg hk];by_cases h:g=k
     . have hb:(g == k)=true:=beq_iff_eq.mpr h;simp only [List.lookup,hb,if_neg (fun e:g=f=>hk (h.symm.trans e))]
     . have hb:(g == k)=false:=beq_eq_false_iff_ne.mpr h;simp only [List.lookup,hb];exact ih
theorem pe (f:Str) (v:V):∀ fs:List (Str × V),f∈(eM f v fs).map (·.1)/\∀ g,g∈fs.map (·.1)->g∈(eM f v fs).map (·.1)
 | []=>⟨by simp [eM],fun g h=>by simp at h⟩
 | (k,x)::r=>by
   obtain ⟨i1,i2⟩:=pe f v r;rw [show eM f v ((k,x)::r)=(if k=f then (k,v)::r else (k,x)::eM f v r) from rfl];by_cases hk:k=f
   . rw [if_pos hk];subst hk;exact ⟨by simp,fun g h=>by simpa using h⟩
   . rw [if_neg hk];refine ⟨?_,fun g h=>?_⟩
     . rw [List.map_cons];exact List.mem_cons_of_mem _ i1
     . rw [List.map_cons] at h ⊢;rcases List.mem_cons.mp h with e|e
       . exact List.mem_cons.mpr (.inl e)
       . exact List.mem_cons_of_mem _ (i2 g e)
theorem qa (f:Str) (v:V):∀ fs:List (Str × V),(eM f v fs).length<=fs.length+1
 | []=>by simp [eM]
 | (k,x)::r=>by
   have ih:=qa f v r;rw [show eM f v ((k,x)::r)=(if k=f then (k,v)::r else (k,x)::eM f v r) from rfl];by_cases hk:k=f
   . rw [if_pos hk,List.length_cons,List.length_cons];omega
   . rw [if_neg hk,List.length_cons,List.length_cons];omega
theorem RelO.some_of {v:V} {o:Option Value} (r:RelO (some v) o):∃ u,o=some u/\RelV v u:=by
 cases o with
 | none=>exact (show False from r).elim
 | some u=>exact ⟨u,rfl,r⟩
theorem Ak {v:V} {u:Value} (r:RelV v u):PySem.W.handedIn u=true:=by
 cases v with
 | non=>cases (show u=Value.none from r);rfl
 | bl b=>cases (show u=Value.bool b from r);rfl
 | int i=>obtain ⟨t,e⟩:=(show ∃ t,u=Value.int i t from r);cases e;rfl
 | str x=>obtain ⟨t,e⟩:=(show ∃ t,u=Value.str x t from r);cases e;rfl
 | byt b=>obtain ⟨t,e⟩:=(show ∃ t,u=Value.bytes b t from r);cases e;rfl
 | flt b=>obtain ⟨t,e⟩:=(show ∃ t,u=Value.float b t from r);cases e;rfl
 | ref a=>cases (show u=Value.ref a from r);rfl
 | ty n=>cases (show u=Value.type n from r);rfl
section
variable {P:Program} {w:World} {H H':Hp} {h h':Heap} {a C dx:Addr} {fs fs':List (Str × V)}
theorem DF (hok:HOk P w H h) (e:H a=some (.ins C dx fs)):∃ mA,ObjM h a dx C mA/\(∀ f,RelO (fs.lookup f) (mA f))/\PySem.Within mA (fs.map (·.1))/\fs.length<=1000/\H dx=some (.own a):=by
 obtain ⟨d,z,ne,ob,mA,n,r,q⟩:=(show ObjOk P w H h a (.ins C dx fs) from hok a _ e);exact ⟨mA,⟨ob,n,ne⟩,r,q,z,d⟩
end
structure Cls (K:PySem.W.Frag) (C:Addr):Prop where
 pg:PySem.W.plainGet K C Str.empty=true
 hd:PySem.W.hasDictIn K C=true
 po:PySem.W.plainOver K C=true
 sa:PySem.W.findIn K (.ref C) "__setattr__"=some (some (.builtin "object.__setattr__"))
def NoAttr (K:PySem.W.Frag) (C:Addr) (f:Str):Prop:=PySem.W.findIn K (.ref C) f=some none
theorem NoAttr.taker {K:PySem.W.Frag} {C:Addr} {f:Str} (n:NoAttr K C f):PySem.W.takerIn K C f=some none:=by
 unfold PySem.W.takerIn;rw [show PySem.W.findIn K (.ref C) f=some none from n]
 rfl
section
variable {X:Cx} {pins:List (Addr × Obj)} {σ:St} {H:Hp} {s:Shared} {a C dx:Addr} {fs:List (Str × V)} {f:Str} {v:V} {A:Around} {E:Value->Shared->Prop}
theorem yC {y:V} {u:Value} {Q:Unit->Shared->Prop} (I:Inv X pins σ H s) (e:H a=some (.ins C dx fs)) (c:Cls X.K C) (n:NoAttr X.K C f) (hl:fs.length<1000) (ry:RelV y u)
   (h:∀ s',Inv X pins σ (upd H a (.ins C dx (eM f y fs))) s'->Q () s'):wpAny (model X.prog X.w) A (setAttr (.ref a) f u) Q E s:=by
 obtain ⟨mA,O,r,wi,_,ho⟩:=DF I.hok e;have hz:(fs.map (·.1)).length<=sizeLine:=by rw [List.length_map,sizeLine_eq];omega
 refine D7 I.kIn O c.sa c.po n.taker c.hd wi hz fun h' O' sb=>h _ ?_;have hd:∃ o,h'.get? dx=some o:=let ⟨o,_,_,e',_⟩:=O'.ns;⟨o,e'⟩;refine I.write (x:=a) (e:=dx) (by rw [e];exact True.intro) (.inr ho) (fun b q hb z=>(sb.2 b hb).trans z) hd ?_;refine ⟨by rw [am O.ne];exact ho,?_,O.ne,O'.obj,_,O'.ns,fun g=>?_,fun g hg=>?_⟩
 . have:=qa f y fs;omega
 . show RelO ((eM f y fs).lookup g) (if g=f then some u else mA g);rw [fP];by_cases q:g=f
   . rw [if_pos q,if_pos q];exact ry
   . rw [if_neg q,if_neg q];exact r g
 . by_cases q:g=f
   . rw [q];exact (pe f y fs).1
   . refine (pe f y fs).2 g (wi g fun z=>hg ?_);show (if g=f then some u else mA g)=none;rw [if_neg q];exact z
theorem Dx {prog:Program} {w:World} {env:Env} {e:Expr} {f:Str} {pos:Pos} {s:Shared} {Q:Value->Shared->Prop} (hb:attributeBase e f env (eval e env)=eval e env)
   (h:wpAny (model prog w) A (eval e env) (fun o s₁=>wpAny (model prog w) A (getAttr o f true) Q E s₁) E s):wpAny (model prog w) A (eval (.Attribute e f pos) env) Q E s :=
 Attribute_any_ h (by rw [arm_eval_Attribute,hb])
end
def EZ (K:PySem.W.Frag) (ta:TE) (f:Str):TE:=fun σ H Q=>ta σ H fun x H1=>∃ a C dx fs v,x=.ref a/\H1 a=some (.ins C dx fs)/\Cls K C/\NoAttr K C f/\fs.lookup f=some v/\Q v H1
def Cr (K:PySem.W.Frag) (ta tv:TE) (f:Str):TS:=fun D σ H=>tv σ H fun y H1=>ta σ H1 fun x H2=>∃ a C dx fs,x=.ref a/\H2 a=some (.ins C dx fs)/\Cls K C/\NoAttr K C f/\fs.length<1000 /\
 D.nx σ (upd H2 a (.ins C dx (eM f y fs)))
section
variable {X:Cx} {o e value:Expr} {f:Str} {pos pos' tpos:Pos} {ta tv:TE}
theorem zY (ha:PE X o ta) (hv:PE X value tv) (hs:swapsWith value (some (.Attribute o f pos')) pos.line X.env=pure false):PS X (.Assign [.Attribute o f pos'] value pos) (Cr X.K ta tv f):=by
 intro pins s σ H D I h;refine plainObj_wpAny_Assign_Attribute (bc (hv pins s σ H _ I h) fun u s1 y H1 I1 ry q=>bc (ha pins s1 σ H1 _ I1 q) fun ov s2 x H2 I2 rx ⟨a,C,dx,fs,ex,ea,c,n,l,q2⟩=>?_) hs;subst ex;obtain rfl:ov=Value.ref a:=rx;exact yC I2 ea c n l ry fun s3 I3=>⟨σ,_,I3,q2⟩
end
section
variable {X:Cx} {pins:List (Addr × Obj)} {σ:St} {H:Hp} {s:Shared} {A:Around} {E:Value->Shared->Prop} {Q:Value->Shared->Prop} {c:Value} {b:Bool}
end
end L2
namespace L2
open PySem PySem.Spec PyProof.Rows
structure Room (k:Nat) (A:Around):Prop where
 hd:A.handled=none
 dp:A.depth+3*k+5<recursionLimit
 un:A.units+16*k+200<cLine
theorem Room.mono {j k:Nat} {A:Around} (r:Room k A) (h:j<=k):Room j A:=⟨r.hd,by have:=r.dp;omega,by have:=r.un;omega⟩
theorem Room.deeper {k:Nat} {A:Around} (r:Room (k+1) A) (env:Env):Room k (A.deeper env) :=
 ⟨r.hd,by have:=r.dp;show A.depth+1+3*k+5<_;omega,by have:=r.un;show A.units+3+16*k+200<_;omega⟩
theorem yL {A:Around} {C:Addr} {us:List Value} {kw:List (Str × Value)}:(A.under (.builtin "type.__call__" ⟨.ref C::us,kw⟩)).depth=A.depth+1:=by
 first|rfl|simp [Around.under,Code.weight,Code.isCreation,Code.isGuard,Code.isCaller,Code.frames,Code.isFrame,guardIds]
theorem zE {A:Around} {C:Addr} {us:List Value} {kw:List (Str × Value)}:(A.under (.builtin "type.__call__" ⟨.ref C::us,kw⟩)).units=A.units+1:=by
 first|rfl|simp [Around.under,Code.cUnits,Code.frames,Code.isFrame]
theorem Room.make {k:Nat} {A:Around} (r:Room (k+1) A) (C:Addr) (us:List Value) (kw:List (Str × Value)):Room k (A.under (.builtin "type.__call__" ⟨.ref C::us,kw⟩)) :=
 ⟨r.hd,by have:=r.dp;rw [yL];omega,by have:=r.un;rw [zE];omega⟩
theorem Room.depth {k:Nat} {A:Around} (r:Room k A):A.depth<recursionLimit:=by have:=r.dp;omega
theorem Room.units {k:Nat} {A:Around} (r:Room k A):A.units+64<cLine:=by have:=r.un;omega
def tNil:TA:=fun _ H Q=>Q [] H
def y7 (ta:TE) (tr:TA):TA:=fun σ H Q=>ta σ H fun x H1=>tr σ H1 fun xs H2=>Q (x::xs) H2
section
variable {X:Cx} {e:Expr} {es:List Expr} {te:TE} {t:TA} {pos:Pos}
theorem ag:PA X [] tNil:=fun _ _ _ _ H Q I h=>Calls.spliced_nil ⟨[],H,I,.nil,h⟩
theorem ae (ha:PE X e te) (hr:PA X es t) (hs:starEach (e::es) X.env=(false,eval e X.env)::starEach es X.env:=by rfl):PA X (e::es) (y7 te t):=by
 intro pos pins s σ H Q I h;rw [hs];show wpAny _ _ (spliced ((false,eval e X.env)::backTo pos (starEach es X.env))) _ _ s;refine Calls.spliced_cons (bc (ha pins s σ H _ I h) fun u s1 x H1 I1 r1 q1=>?_);exact oX (hr pos pins s1 σ H1 _ I1 q1) fun us s2 xs H2 I2 r2 q2=>⟨x::xs,H2,I2,.cons r1 r2,q2⟩
def B5 (t:TA):TE:=fun σ H Q=>t σ H fun xs H1=>xs.length<=sizeLine/\∀ p,H1 p=none->Q (.ref p) (upd H1 p (.tup xs))
def BK (t:TA):TE:=fun σ H Q=>t σ H fun xs H1=>xs.length<=sizeLine/\∀ p,H1 p=none->Q (.ref p) (upd H1 p (.lst xs))
theorem qU {x1} (h:PA X es t):PE X (.Tuple es x1 pos) (B5 t):=by
 intro pins s σ H Q I hq;refine wpAny_Tuple_spliced (oX (h pos pins s σ H _ I hq) fun us s1 xs H1 I1 r ⟨z,q⟩=>⟨by rw [<- r.length];exact z,?_⟩);have hf:H1 s1.heap.objs.size=none:=I1.hok.fresh (Nat.le_refl _);refine ⟨.ref s1.heap.objs.size,upd H1 s1.heap.objs.size (.tup xs),I1.laid (t':=s1.toks) (fun b u e=>Heap.get?_push_of_some _ e) (Nat.le_refl _) ?_,rfl,q _ hf⟩;exact ⟨z,us,r,⟨_,Heap.get?_push_size _ rfl,rfl,_,rfl⟩⟩
theorem bf (h:PA X es t):PE X (.List es pos) (BK t):=by
 intro pins s σ H Q I hq;refine wpAny_List_spliced (oX (h pos pins s σ H _ I hq) fun us s1 xs H1 I1 r ⟨z,q⟩=>⟨by rw [<- r.length];exact z,?_⟩);have hf:H1 s1.heap.objs.size=none:=I1.hok.fresh (Nat.le_refl _);refine ⟨.ref s1.heap.objs.size,upd H1 s1.heap.objs.size (.lst xs),I1.laid (t':=s1.toks) (fun b u e=>Heap.get?_push_of_some _ e) (Nat.le_refl _) ?_,rfl,q _ hf⟩;exact ⟨z,us,0,r,Heap.get?_push_size _ rfl⟩
end
abbrev Sp:=List V->Hp->VK->XK->Prop
abbrev CXT:=List Env->Hp->Shared->XK->Value->Shared->Prop
structure Env0 (P:Program) (w:World) (K:PySem.W.Frag) (mg:Str->Option Value) (base:Heap) (A:Around) (outer:List Env) (s:Shared) (H:Hp):Prop where
 frames:A.frames=some outer
 mod:Mod K mg base
 bs:∀ b o,base.get? b=some o->s.heap.get? b=some o/\H b=none
 bsz:base.objs.size<=s.heap.objs.size
 funs:s.heap.FunFrames base outer
 frf:∀ b∈frs outer,H b=none
 hok:HOk P w H s.heap
 bare:AllBare s.gens
def CE (outer:List Env) (P:Program) (w:World) (H:Hp) (s:Shared) (Q:VK) (u:Value) (s':Shared):Prop :=
 ∃ v H',s'.os=s.os/\AllBare s'.gens/\Un (frs outer) [] H H' s.heap s'.heap/\HOk P w H' s'.heap/\RelV v u/\Q v H'
def CR (CX:CXT) (outer:List Env) (P:Program) (w:World) (H:Hp) (s:Shared) (Q:VK) (E:XK) (r:Result) (s':Shared):Prop :=
 match r with
 | .ok (.ret u)=>CE outer P w H s Q u s'
 | .ok _=>False
 | .error e=>CX outer H s E e s'
structure FnOk (P:Program) (w:World) (K:PySem.W.Frag) (mg:Str->Option Value) (base:Heap) (CX:CXT) (k:Nat) (f:Addr) (fd:FuncData) (ps:List Str) (sp:Sp):Prop where
 len:∀ vs H Q E,sp vs H Q E->vs.length=ps.length
 run:∀ (A:Around) (outer:List Env) (s:Shared) (H:Hp) (args:Args) (us:List Value) (vs:List V) (Q:VK) (E:XK),Room k A->Env0 P w K mg base A outer s H->BindsTo s fd args (ps.zip us)->Vals vs us->sp vs H Q E ->
   codeAny (model P w) A (.call (.ref f) args) (CR CX outer P w H s Q E) s
theorem Env0.make {P:Program} {w:World} {K:PySem.W.Frag} {mg:Str->Option Value} {base:Heap} {A:Around} {outer:List Env} {s:Shared} {H:Hp} (e:Env0 P w K mg base A outer s H) (C:Addr) (us:List Value) (kw:List (Str × Value)) :
   Env0 P w K mg base (A.under (.builtin "type.__call__" ⟨.ref C::us,kw⟩)) outer s H:=⟨by first|exact e.frames|(simpa [Around.under,Code.envs,Code.isFrame,pushEnvs] using e.frames),e.mod,e.bs,e.bsz,e.funs,e.frf,e.hok,e.bare⟩
section
variable {X:Cx} {pins:List (Addr × Obj)} {σ:St} {H:Hp} {s s':Shared}
theorem Inv.env0 (I:Inv X pins σ H s):Env0 X.prog X.w X.K X.mg X.base X.A X.stack s H :=
 ⟨I.ok.frames,I.ok.mod,I.bs,Nat.le_trans I.ok.bsz I.sz,I.stack,I.stkFree,I.hok,I.bare⟩
theorem Inv.after {Q:VK} {u:Value} (I:Inv X pins σ H s) (h:CE X.stack X.prog X.w H s Q u s'):EP X pins σ Q u s':=by
 obtain ⟨v,H',os,bare,un,hok,r,q⟩:=h;obtain ⟨hh,g,d,t,os'⟩:=s';obtain rfl:os'=s.os:=os;exact ⟨v,H',I.call (h':=hh) (g':=g) (d':=d) (t':=t) (ch:=[]) un hok bare (fun b z=>absurd z (by simp)),r,q⟩
end
def vD (sp:Sp) (dvs:List V) (E:XK) (t:TA):TE:=fun σ H Q=>t σ H fun vs H1=>sp (vs++dvs) H1 Q E
def C2 (C:Addr) (m:Str) (sp:Sp) (dvs:List V) (E:XK) (ta:TE) (t:TA):TE:=fun σ H Q=>ta σ H fun x H1=>∃ a dx fs,x=.ref a/\H1 a=some (.ins C dx fs)/\fs.lookup m=none /\
 t σ H1 fun vs H2=>sp (x::(vs++dvs)) H2 Q E
def C6 (C:Addr) (sp:Sp) (dvs:List V) (E:XK) (t:TA):TE:=fun σ H Q=>t σ H fun vs H1=>∀ x dx,H1 x=none->H1 dx=none->dx≠x ->
 sp (.ref x::(vs++dvs)) (upd (upd H1 dx (.own x)) x (.ins C dx [])) (fun v H2=>v=.non/\Q (.ref x) H2) E
def Binds (K:PySem.W.Frag) (fd:FuncData) (ps:List Str) (ds:List Value):Prop :=
 ∀ (s:Shared) (us:List Value),K.In s.heap->(us++ds).length=ps.length->BindsTo s fd ⟨us,[]⟩ (ps.zip (us++ds))
theorem Binds.all {K:PySem.W.Frag} {fd:FuncData} {ps:List Str} (h:∀ us:List Value,us.length=ps.length->bindArgs fd ⟨us,[]⟩=pure (ps.zip us)):Binds K fd ps []:=fun s us _ hl=>by
 rw [List.append_nil] at hl ⊢;exact .of_eq (h us hl)
def sB (CX:CXT) (X:Cx) (E:XK):Prop:=∀ (pins:List (Addr × Obj)) (σ:St) (H:Hp) (s:Shared) (e:Value) (s':Shared),Inv X pins σ H s->CX X.stack H s E e s'->X.xe e s'
section
variable {X:Cx} {CX:CXT} {k:Nat} {f C:Addr} {fd:FuncData} {ps:List Str} {sp:Sp} {dvs:List V} {ds:List Value} {E:XK} {x m:Str} {p pos apos:Pos} {e o:Expr} {es:List Expr} {ta:TE} {t:TA}
theorem EB {pins:List (Addr × Obj)} {σ:St} {H:Hp} {s:Shared} {Q:VK} {us:List Value} {vs:List V} (F:FnOk X.prog X.w X.K X.mg X.base CX k f fd ps sp) (hr:Room k X.A) (hb:Binds X.K fd ps ds) (hd:Vals dvs ds) (hx:sB CX X E)
   (I:Inv X pins σ H s) (r:Vals vs us) (h:sp (vs++dvs) H Q E):wpAny (model X.prog X.w) X.A (call (.ref f) us) (EP X pins σ Q) X.xe s:=by
 have r2:Vals (vs++dvs) (us++ds):=r.append hd;have hl:(us++ds).length=ps.length:=by rw [<- r2.length];exact F.len _ _ _ _ h
 refine wpAny_call (codeAny_mono (F.run X.A X.stack s H ⟨us,[]⟩ (us++ds) (vs++dvs) Q E hr I.env0 (hb s us I.kIn hl) r2 h) fun r s' hq=>?_);cases r with
 | error e=>exact hx pins σ H s e s' I hq
 | ok fl =>
   cases fl with
   | ret u=>exact I.after hq
   | next=>exact False.elim hq
   | brk=>exact False.elim hq
   | cont=>exact False.elim hq
theorem bC (F:FnOk X.prog X.w X.K X.mg X.base CX k f fd ps sp) (hr:Room k X.A) (hg:Gl X x) (hm:X.mg x=some (.ref f)) (hk:PySem.W.keepIn X.K (.ref f)=true) (hb:Binds X.K fd ps ds) (hd:Vals dvs ds) (hx:sB CX X E)
   (ha:PA X (e::es) t) (hdb:(x == ("__debug__":Str))=false:=by decide) (he:starEach (e::es) X.env=(false,eval e X.env)::starEach es X.env:=by rfl) (hpl:(backTo pos (starEach es X.env)).any (·.1)=false:=by rfl) :
   PE X (.Call (.Name x p) (e::es) [] pos) (vD sp dvs E t):=by
 intro pins s σ H Q I h;refine wpAny_Call_Name_kw (jJ I hg hm ?_ hdb);refine PySem.W.callWith_K (h₀:=X.base) I.ok.mod.kin hk (oX (ha pos pins s σ H _ I h) fun us s1 vs H1 I1 r q=>⟨I1.kIn,?_⟩) he hpl;exact EB F hr hb hd hx I1 r q
structure Mk (K:PySem.W.Frag) (C f:Addr):Prop where
 makes:PySem.W.makesIn K C=true
 init:PySem.W.findIn K (.ref C) "__init__"=some (some (.ref f))
 fn:PySem.W.isFn K (.ref f)=true
 kp:PySem.W.keepIn K (.ref C)=true
end
section
variable {X:Cx} {CX:CXT} {k:Nat} {f C:Addr} {fd:FuncData} {ps ks:List Str} {sp:Sp} {E:XK} {x m:Str} {p pos apos kpos:Pos} {e o:Expr} {es:List Expr} {kws:List Keyword} {te ta:TE} {t tk:TA} {nm:Option Str}
variable {g:List Value->List Value->List Value} {gV:List V->List V->List V}
end
structure FnScope (N P:List Str) (sc:Scope):Prop where
 kind:sc.kind=.function
 co:sc.isCoroutine=false
 gen:sc.isGenerator=false
 nd:N.Nodup
 pre:N.take P.length=P
 par:∀ x∈P,sc.names.lookup x=some .local\/sc.names.lookup x=some .cell
 nofree:∀ y∈sc.names,y.2≠.free
theorem ur {kindOf:Str->Option NameKind} {x:Str}:∀ {binds:List (Str × Value)} {m:Str->Option Value},(∀ v,(x,v) ∉ binds)->bindL kindOf binds m x=m x
 | [],_,_=>rfl
 | (n,v)::r,m,h=>by
   unfold bindL;rw [ur fun w hw=>h w (List.mem_cons_of_mem _ hw)];split
   . have:x≠n:=(by rintro rfl;exact h v List.mem_cons_self);simp [this]
   . rfl
theorem uf {kindOf:Str->Option NameKind} {x:Str}:∀ {binds:List (Str × Value)} {m:Str->Option Value},(∀ v,(x,v) ∉ binds)->bindC kindOf binds m x=m x
 | [],_,_=>rfl
 | (n,v)::r,m,h=>by
   unfold bindC;rw [uf fun w hw=>h w (List.mem_cons_of_mem _ hw)];split
   . rfl
   . have:x≠n:=(by rintro rfl;exact h v List.mem_cons_self);simp [this]
theorem uV {kindOf:Str->Option NameKind} {x:Str} {v:Value}:∀ {P:List Str} {vs:List Value} {i:Nat} {m:Str->Option Value},P.Nodup->P[i]?=some x->vs[i]?=some v->kindOf x=some .local ->
   bindL kindOf (P.zip vs) m x=some v
 | [],_,_,_,_,h,_,_=>by simp at h
 | _::_,[],_,_,_,_,h,_=>by simp at h
 | p::P,w::vs,0,m,nd,h1,h2,hk=>by
   simp at h1 h2;subst h1;subst h2;show bindL kindOf ((p,w)::P.zip vs) m p=_;unfold bindL;rw [ur fun v hv=>(List.nodup_cons.mp nd).1 (List.of_mem_zip hv).1,if_pos hk];simp
 | p::P,w::vs,i+1,m,nd,h1,h2,hk=>by
   show bindL kindOf ((p,w)::P.zip vs) m x=_;unfold bindL;exact uV (i:=i) (List.nodup_cons.mp nd).2 (by simpa using h1) (by simpa using h2) hk
theorem uu {kindOf:Str->Option NameKind} {x:Str} {v:Value}:∀ {P:List Str} {vs:List Value} {i:Nat} {m:Str->Option Value},P.Nodup->P[i]?=some x->vs[i]?=some v->kindOf x≠some .local ->
   bindC kindOf (P.zip vs) m x=some v
 | [],_,_,_,_,h,_,_=>by simp at h
 | _::_,[],_,_,_,_,h,_=>by simp at h
 | p::P,w::vs,0,m,nd,h1,h2,hk=>by
   simp at h1 h2;subst h1;subst h2;show bindC kindOf ((p,w)::P.zip vs) m p=_;unfold bindC;rw [uf fun v hv=>(List.nodup_cons.mp nd).1 (List.of_mem_zip hv).1,if_neg hk];simp
 | p::P,w::vs,i+1,m,nd,h1,h2,hk=>by
   show bindC kindOf ((p,w)::P.zip vs) m x=_;unfold bindC;exact uu (i:=i) (List.nodup_cons.mp nd).2 (by simpa using h1) (by simpa using h2) hk
def start (N:List Str) (vs:List V):St:=vs.map some++List.replicate (N.length - vs.length) none
def ig (CX:CXT) (P:Program) (w:World) (K:PySem.W.Frag) (mg:Str->Option Value) (base:Heap) (N:List Str) (qual:Str) (scope:Scope) (f:Addr) (cd:Value) (A:Around) (outer:List Env) (s:Shared) (H:Hp) (E:XK):Cx where
 prog:=P
 w:=w
 K:=K
 mg:=mg
 base:=base
 A:=A.deeper (envOfC qual scope s.heap.objs.size f cd)
 N:=N
 s₀:=s
 H₀:=H
 env:=envOfC qual scope s.heap.objs.size f cd
 outer:=outer
 stack:=envOfC qual scope s.heap.objs.size f cd::outer
 ex:=[]
 calm:=true
 fn:=fun _=>true
 pn:=[]
 xe:=fun e s'=>wpAny (model P w) (A.deeper (envOfC qual scope s.heap.objs.size f cd)) (leaving (envOfC qual scope s.heap.objs.size f cd) e) (fun _ s''=>CX outer H s E e s'') (fun e' s''=>CX outer H s E e' s'') s'
theorem qI {sc:Scope} {n:Nat} {x:Str} (h:sc.names.lookup x=some .cell):∃ c,(cellsFrom n sc.names []).lookup x=some c:=by
 have q:=PySem.W.cellsFrom_some sc.names n [] (.inl h);exact Option.isSome_iff_exists.mp q
theorem Az {CX:CXT} {P:Program} {w:World} {K:PySem.W.Frag} {mg:Str->Option Value} {base:Heap} {N ps:List Str} {qual:Str} {scope:Scope} {f:Addr} {cd:Value} {A:Around} {outer:List Env} {s s1:Shared} {H:Hp} {E:XK} {us:List Value} {vs:List V}
   (S:FnScope N ps scope) (hd:A.handled=none) (e0:Env0 P w K mg base A outer s H) (hl:vs.length=ps.length) (r:Vals vs us)
   (x:InCallC s s.heap.objs.size (bindL (envOfC qual scope s.heap.objs.size f cd).kindOf (ps.zip us) fun _=>none) (cellsFrom (s.heap.objs.size+1) scope.names []) (bindC (envOfC qual scope s.heap.objs.size f cd).kindOf (ps.zip us) fun _=>none) s1) :
   Inv (ig CX P w K mg base N qual scope f cd A outer s H E) [] (start N vs) H s1:=by
 have hpl:ps.length<=N.length:=by have:=congrArg List.length S.pre;rw [List.length_take] at this;omega
 obtain ⟨h1,tk,rfl,hk⟩:=x.done;have noA:∀ b:Addr,b ∉ (ig CX P w K mg base N qual scope f cd A outer s H E).ex:=fun b z=>absurd (show b∈([]:List Addr) from z) (by simp);refine ⟨⟨e0.mod,S.kind,rfl,rfl,Nat.le_refl _,fun y z c h1 h2=>?_,fun y hy=>?_,fun y c _ h=>?_,fun _=>hd,Around.frames_deeper e0.frames,.inr ⟨rfl,rfl⟩,fun b z=>absurd z (noA b),e0.bs,e0.bsz,fun b _ _=>noA b,fun b z=>absurd z (noA b),e0.funs,e0.frf⟩,
   rfl,e0.bare,Un.kept hk,⟨_,x.toInCall.ns,fun i y v h1 h2 h3=>?_⟩,fun y c h=>⟨_,x.cell y c h⟩,e0.hok.fresh (Nat.le_refl _),fun y c h=>?_,fun p hp=>absurd (show p∈([]:List (Addr × Obj)) from hp) (by simp),e0.hok.kept hk,?_⟩
 . exact name_of_addr x.apart (PySem.mem_of_lookup h1) (PySem.mem_of_lookup h2)
 . have hy:scope.names.lookup y=some .cell\/scope.names.lookup y=some .free:=hy;rcases hy with hy|hy
   . exact qI hy
   . exact absurd rfl (S.nofree _ (PySem.mem_of_lookup hy))
 . exact Nat.le_of_lt (x.above y c (PySem.mem_of_lookup h))
 . have hi:i<vs.length:=by
     unfold start at h2;by_cases hi:i<vs.length
     . exact hi
     . rw [List.getElem?_append_right (by simpa using hi)] at h2;rw [List.getElem?_replicate] at h2;split at h2 <;> cases h2
   have ha:vs[i]?=some v:=by
     unfold start at h2;rw [List.getElem?_append_left (by simpa using hi),List.getElem?_map] at h2;cases e:vs[i]? with
     | none=>rw [e] at h2;cases h2
     | some a=>rw [e] at h2;cases h2;rfl
   obtain ⟨u,hu,rv⟩:=r.get ha;have hp:ps[i]?=some y:=by
     rw [<- S.pre,List.getElem?_take_of_lt (by omega)];exact h1
   have ndP:ps.Nodup:=by rw [<- S.pre];exact S.nd.sublist (List.take_sublist _ _)
   refine ⟨u,rv,?_⟩;rcases S.par y (List.mem_of_getElem? hp) with k|k
   . exact .inl ⟨k,uV ndP hp hu k⟩
   . obtain ⟨c,e⟩:=qI (n:=s.heap.objs.size+1) k;refine .inr ⟨.inl k,c,e,?_⟩;have q:=x.cell y c e;rw [uu ndP hp hu (by show scope.names.lookup y≠_;rw [k];decide)] at q;exact q
 . exact e0.hok.fresh (Nat.le_of_lt (x.above y c (PySem.mem_of_lookup h)))
 . unfold start;show _=N.length;rw [List.length_append,List.length_map,List.length_replicate];omega
theorem De {CX:CXT} {P:Program} {w:World} {K:PySem.W.Frag} {mg:Str->Option Value} {base:Heap} {k:Nat} {f:Addr} {name qual:Str} {params:Arguments} {body:List Stmt} {scope:Scope} {dV kV doc pm cdv ct oc:Value} {an od:Option Addr}
   {osl:Array (Option Value)} {N ps:List Str} {sp:Sp} (lk:K.lookup f=some ⟨oc,od,.func (PySem.W.fnOf name qual params body scope dV kV doc pm an cdv ct),osl⟩) (hcd:PySem.W.codeIn K cdv qual=true) (S:FnScope N ps scope)
   (len:∀ vs H Q E,sp vs H Q E->vs.length=ps.length)
   (hbody:∀ (A:Around) (outer:List Env) (s:Shared) (H:Hp) (vs:List V) (Q:VK) (E:XK),Room k (A.deeper (envOfC qual scope s.heap.objs.size f cdv))->sp vs H Q E ->
     ∃ t,PSs (ig CX P w K mg base N qual scope f cdv A outer s H E) body t/\t { nx:=fun _ H'=>Q .non H',rt:=Q } (start N vs) H) :
   FnOk P w K mg base CX (k+1) f (PySem.W.fnOf name qual params body scope dV kV doc pm an cdv ct) ps sp:=by
 refine ⟨len,fun A outer s H args us vs Q E hr e0 hb r hsp=>?_⟩;have hl:=len _ _ _ _ hsp;have KX:K.In s.heap:=e0.mod.kin.keeps fun b o e=>(e0.bs b o e).1;have lim:s.heap.NoLimit:=e0.mod.nolimit.keeps fun b o e=>(e0.bs b o e).1;have hkind:∀ y∈ps.zip us,scope.names.lookup y.1=some .local\/(scope.names.lookup y.1=some .cell/\((cellsFrom (s.heap.objs.size+1) scope.names []).lookup y.1).isSome=true):=fun ⟨n,v⟩ hy=>by
   rcases S.par n (List.of_mem_zip hy).1 with q|q
   . exact .inl q
   . exact .inr ⟨q,PySem.W.cellsFrom_some _ _ _ (.inl q)⟩
 refine codeAny_call_function hr.depth (KX _ _ lk) rfl S.co S.gen rfl (PySem.W.codeRec_of KX hcd) (hb _ _ _ _ ?_);refine wpAny_newFunctionEnv_cells S.kind hkind fun env he s1 x=>?_;subst he;refine ⟨lim.keeps x.toInCall.keep,codeAny_func ?_⟩;obtain ⟨t,ht,hq⟩:=hbody A outer s H vs Q E (hr.deeper _) hsp;have I:Inv (ig CX P w K mg base N qual scope f cdv A outer s H E) [] (start N vs) H s1:=Az S hr.hd e0 hl r x;refine wpAny_mono (ht [] s1 (start N vs) H _ I hq) (fun fl s' hs=>?_) fun e s' hs=>hs;have fin:∀ {σ':St} {H':Hp} {v:V} {u:Value},Inv (ig CX P w K mg base N qual scope f cdv A outer s H E) [] σ' H' s'->RelV v u->Q v H'->CE outer P w H s Q u s' :=
   fun {σ' H' v u} J rv q=>⟨v,H',J.os,J.bare,J.base,J.hok,rv,q⟩
 cases fl with
 | ret u =>
   obtain ⟨v,σ',H',J,rv,q⟩:=hs;exact fin J rv q
 | next =>
   obtain ⟨σ',H',J,q⟩:=hs;exact fin (v:=V.non) (u:=Value.none) J rfl q
 | brk =>
   obtain ⟨_,_,_,q⟩:=hs;exact False.elim q
 | cont =>
   obtain ⟨_,_,_,q⟩:=hs;exact False.elim q
end L2
namespace L2
open PySem PySem.Spec PyProof.Rows
section
variable {X:Cx} {x:Str} {p pos:Pos} {e:Expr} {es:List Expr} {t:TA} {id T:String} {r:List V->Hp->VK->Prop}
def tCB (r:List V->Hp->VK->Prop) (t:TA):TE:=fun σ H Q=>t σ H fun vs H1=>r vs H1 Q
theorem aP (hc:dk X (.builtin id) r) (hg:Gl X x) (hm:X.mg x=none) (hv:bootBuiltins x=some (.builtin id)) (ha:PA X (e::es) t) (hn:x≠"__name__":=by decide) (hdb:(x == ("__debug__":Str))=false:=by decide)
   (he:starEach (e::es) X.env=(false,eval e X.env)::starEach es X.env:=by rfl) (hpl:(backTo pos (starEach es X.env)).any (·.1)=false:=by rfl):PE X (.Call (.Name x p) (e::es) [] pos) (tCB r t):=by
 intro pins s σ H Q I h;refine wpAny_Call_Name_kw (lU I hg hm hv ?_ hn hdb);exact PyProof.Rows.callWith_builtin1 (oX (ha pos pins s σ H _ I h) fun us s1 vs H1 I1 r1 q1=>hc pins s1 σ H1 vs us Q I1 r1 q1) he hpl
theorem f7 (hc:dk X (.type T) r) (hg:Gl X x) (hm:X.mg x=none) (hv:bootBuiltins x=some (.type T)) (ha:PA X (e::es) t) (hn:x≠"__name__":=by decide) (hdb:(x == ("__debug__":Str))=false:=by decide)
   (he:starEach (e::es) X.env=(false,eval e X.env)::starEach es X.env:=by rfl) (hpl:(backTo pos (starEach es X.env)).any (·.1)=false:=by rfl):PE X (.Call (.Name x p) (e::es) [] pos) (tCB r t):=by
 intro pins s σ H Q I h;refine wpAny_Call_Name_kw (lU I hg hm hv ?_ hn hdb);exact PyProof.Rows.callWith_type1 (oX (ha pos pins s σ H _ I h) fun us s1 vs H1 I1 r1 q1=>hc pins s1 σ H1 vs us Q I1 r1 q1) he hpl
end
end L2
namespace HT
open PySem PyProof.Rows
section
open PySem.SeqAt
open PySem.AutoSeq1 (wpAny_loadPart')
open PySem.MeetsSeq PySem.MeetsSeq2 PySem.MeetsSeq3
end
section
variable {prog:Program} {w:World} {A:Around} {E:Value->Shared->Prop} {s:Shared}
def sIx (n d:Nat):Option Int->Nat
 | none=>d
 | some v=>if v<0 then (v+(n:Int)).toNat else min v.toNat n
end
end HT
namespace L2
open PySem PySem.Spec PyProof.Rows
abbrev TO:=St->Hp->(Option Int->Hp->Prop)->Prop
def PO (X:Cx) (e:Option Expr) (t:TO):Prop :=
 ∀ (pins:List (Addr × Obj)) (s:Shared) (σ:St) (H:Hp) (Q:Option Int->Hp->Prop),Inv X pins σ H s->t σ H Q ->
   wpAny (model X.prog X.w) X.A (evalPart e X.env) (fun u s'=>∃ o H',Inv X pins σ H' s'/\IsPart u o/\Q o H') X.xe s
def tNoPart:TO:=fun _ H Q=>Q none H
def sD (t:TE):TO:=fun σ H Q=>t σ H fun x H1=>∃ i,x=.int i/\Q (some i) H1
section
variable {X:Cx} {e:Expr} {te:TE} {lo hi:Option Expr} {tl th:TO} {pos p2:Pos}
theorem pI:PO X none tNoPart:=by
 intro pins s σ H Q I h;rw [evalPart_none];exact wpAny_pure ⟨none,H,I,.none,h⟩
theorem jH (h:PE X e te):PO X (some e) (sD te):=by
 intro pins s σ H Q I hw;rw [evalPart_some];refine bc (h pins s σ H _ I hw) fun u s1 x H1 I1 r1 q1=>?_;obtain ⟨i,rfl,q⟩:=q1;obtain ⟨t,rfl⟩:=r1;exact ⟨some i,H1,I1,.int i t,q⟩
def SlR (X:Cx) (r:V->Option Int->Option Int->Hp->VK->Prop):Prop :=
 ∀ (pins:List (Addr × Obj)) (s:Shared) (σ:St) (H:Hp) (x:V) (v vl vu:Value) (lo hi:Option Int) (sl:Addr) (Q:VK),Inv X pins σ H s->RelV x v->s.heap.IsSliceOf sl vl vu .none->IsPart vl lo->IsPart vu hi->r x lo hi H Q ->
   ∃ T id,typeLookup (.type T) "__getitem__"=pure (some (.builtin id))/\s.TypeIs v T/\wpAny (model X.prog X.w) X.A (getItem v (.ref sl)) (EP X pins σ Q) X.xe s
def tSl (r:V->Option Int->Option Int->Hp->VK->Prop) (te:TE) (tl th:TO):TE:=fun σ H Q=>te σ H fun x H1=>tl σ H1 fun l H2=>th σ H2 fun u H3=>r x l u H3 Q
theorem kq {r:V->Option Int->Option Int->Hp->VK->Prop} (hr:SlR X r) (he:PE X e te) (hl:PO X lo tl) (hu:PO X hi th):PE X (.Subscript e (.Slice lo hi none p2) pos) (tSl r te tl th):=by
 intro pins s σ H Q I h;refine Subscript_ (bc (he pins s σ H _ I h) fun v s1 x H1 I1 r1 q1=>?_);refine wpAny_Slice (thn (hl pins s1 σ H1 _ I1 q1) fun vl s2 ⟨l,H2,I2,pl,q2⟩=>thn (hu pins s2 σ H2 _ I2 q2) fun vu s3 ⟨u,H3,I3,pu,q3⟩=>?_);rw [evalPart_none];refine wpAny_pure ?_;have I4:Inv X pins σ H3 { s3 with heap:=s3.heap.push { cls:=.type "slice",data:=.fields #[vl,vu,.none] } }:=I3.kept (t':=s3.toks) fun b ob q=>Heap.get?_push_of_some _ q;obtain ⟨T,id,hT,ht,hg⟩:=hr pins { s3 with heap:=s3.heap.push { cls:=.type "slice",data:=.fields #[vl,vu,.none] } } σ H3 x v vl vu l u s3.heap.objs.size Q I4 r1 (Heap.IsSliceOf.new ..) pl pu q3;show wpAny (model X.prog X.w) X.A (subscriptTail e (.Slice lo hi none p2) v (.ref s3.heap.objs.size)) (EP X pins σ Q) X.xe { s3 with heap:=s3.heap.push { cls:=.type "slice",data:=.fields #[vl,vu,.none] } };exact tail_any (ops:=[.ref s3.heap.objs.size,v]) ht hT hg (by with_unfolding_all rfl)
def kh (xs:List V) (lo hi:Option Int):List V:=(xs.drop (HT.sIx xs.length 0 lo)).take (HT.sIx xs.length xs.length hi - HT.sIx xs.length 0 lo)
theorem xC (xs:List V) (lo hi:Option Int):(kh xs lo hi).length<=xs.length:=by
 unfold kh;rw [List.length_take,List.length_drop];omega
end
end L2
namespace L2
open PySem PySem.Spec PyProof.Rows
def ixN (n:Nat) (i:Int):Option Nat:=if 0<=i then (if i<n then some i.toNat else none) else if -(n:Int)<=i then some (i+n).toNat else none
def atI {α:Type} (xs:List α) (i:Int):Option α:=(ixN xs.length i).bind fun j=>xs[j]?
theorem xZ {n:Nat} {i:Int} {j:Nat} (h:ixN n i=some j):seqIndex? i n=some j/\j<n/\-(n:Int)<=i/\i<n:=by
 unfold ixN at h;by_cases h0:0<=i
 . rw [if_pos h0] at h;by_cases h1:i<n
   . rw [if_pos h1] at h;have e:i.toNat=j:=Option.some.inj h;exact ⟨by rw [seqIndex_of h0 h1,e],by omega,by omega,h1⟩
   . rw [if_neg h1] at h;cases h
 . rw [if_neg h0] at h;by_cases h1:-(n:Int)<=i
   . rw [if_pos h1] at h;have e:(i+n).toNat=j:=Option.some.inj h;exact ⟨by rw [seqIndex_neg (by omega) h1,e],by omega,h1,by omega⟩
   . rw [if_neg h1] at h;cases h
theorem tT {α:Type} {xs:List α} {i:Int} {v:α} (h:atI xs i=some v):∃ j,seqIndex? i xs.length=some j/\xs[j]?=some v/\j<xs.length/\-(xs.length:Int)<=i/\i<xs.length:=by
 unfold atI at h;cases e:ixN xs.length i with
 | none=>rw [e] at h;cases h
 | some j =>
   rw [e] at h;obtain ⟨h1,h2,h3,h4⟩:=xZ e;exact ⟨j,h1,h,h2,h3,h4⟩
theorem tS {α:Type} {xs:List α} {j:Nat} {v:α} (h:xs[j]?=some v):atI xs (j:Int)=some v:=by
 have hj:j<xs.length:=(List.getElem?_eq_some_iff.mp h).1;have e:ixN xs.length (j:Int)=some j:=by
   unfold ixN;rw [if_pos (by omega),if_pos (by omega)];simp
 unfold atI;rw [e];exact h
def Dy (b:Expr):Prop:=∀ o i,subscripted b false o i=operate [o,i] (getItem o i)
def IxR (X:Cx) (r:R2):Prop :=
 ∀ (value slice:Expr) (pins:List (Addr × Obj)) (s:Shared) (σ:St) (H:Hp) (x y:V) (v u:Value) (Q:VK),Inv X pins σ H s->RelV x v->RelV y u->r x y H Q ->
   subscripted slice false v u=operate [v,u] (getItem v u)->wpAny (model X.prog X.w) X.A (subscriptTail value slice v u) (EP X pins σ Q) X.xe s
def MtR (X:Cx) (id:String) (r:V->List V->Hp->VK->Prop):Prop :=
 ∀ (pins:List (Addr × Obj)) (s:Shared) (σ:St) (H:Hp) (x:V) (xs:List V) (v:Value) (us:List Value) (Q:VK),Inv X pins σ H s->RelV x v->Vals xs us->r x xs H Q ->
   wpAny (model X.prog X.w) X.A (call (.builtin id) (v::us)) (EP X pins σ Q) X.xe s
section
variable {X:Cx} {a b:Expr} {ta tb:TE} {pos:Pos}
theorem bH {r:R2} (hr:IxR X r) (ha:PE X a ta) (hb:PE X b tb) (hs:Dy b):PE X (.Subscript a b pos) (tOp r ta tb):=by
 intro pins s σ H Q I h;exact Subscript_ (B3 ha hb I h fun v u s2 x y H2 I2 rx ry q=>hr a b pins s2 σ H2 x y v u Q I2 rx ry q (hs _ _))
def BA (K:PySem.W.Frag):R2:=fun x y H Q=>∃ p xs i v,x=.ref p/\y=.int i/\SqL K H p xs/\atI xs i=some v/\Q v H
def Eu (K:PySem.W.Frag):R2:=fun x y H Q=>∃ p xs i v,x=.ref p/\y=.int i/\SqT K H p xs/\atI xs i=some v/\Q v H
def rIxS:R2:=fun x y H Q=>∃ z i c,x=.str z/\y=.int i/\z.length<=sizeLine/\atI z.cps.toList i=some c/\Q (.str ⟨#[c]⟩) H
theorem cg:IxR X (BA X.K):=by
 intro value slice pins s σ H x y v u Q I rx ry h hs;obtain ⟨p,xs,i,z,rfl,rfl,hq,he,q⟩:=h;cases rx;obtain ⟨t,rfl⟩:=ry;obtain ⟨its,r,pl,hz⟩:=I.list hq;obtain ⟨j,h1,h2,h3,h4,h5⟩:=tT he;obtain ⟨w,ew,rw'⟩:=r.get h2;have hl:=r.length;have hn:=iU;have fin:EP X pins σ Q w s:=⟨z,H,I,rw',q⟩;by_cases h0:0<=i
 . have hj:i.toNat=j:=by
     rw [seqIndex_of h0 h5] at h1;exact Option.some.inj h1
   exact item_listR pl.isList h0 (by omega) (by rw [hj];simpa using ew) fin hs
 . have hj:(i+(its.toArray.size:Int)).toNat=j:=by
     rw [seqIndex_neg (by omega) h4] at h1;rw [List.size_toArray,<- hl];exact Option.some.inj h1
   exact subscriptTail_builtinR (x:=w) pl.isList.typeIs slot_list_getitem.lookup
     (wpAny_getItem_list_neg (Q:=fun r s'=>r=w/\EP X pins σ Q r s') pl.isList (by omega) (by rw [List.size_toArray] <;> omega) (by omega) (by rw [hj];simpa using ew) ⟨rfl,fin⟩) hs
theorem fK:IxR X (Eu X.K):=by
 intro value slice pins s σ H x y v u Q I rx ry h hs;obtain ⟨p,xs,i,z,rfl,rfl,hq,he,q⟩:=h;cases rx;obtain ⟨t,rfl⟩:=ry;obtain ⟨its,r,pl,hz⟩:=I.tuple hq;obtain ⟨j,h1,h2,h3,h4,h5⟩:=tT he;obtain ⟨w,ew,rw'⟩:=r.get h2;have hl:=r.length;have hn:=iU;have fin:EP X pins σ Q w s:=⟨z,H,I,rw',q⟩;exact subscriptTail_builtinR (x:=w) pl.typeIs slot_tuple_getitem.lookup
   (getItem_tuple (j:=j) (Q:=fun r s'=>r=w/\EP X pins σ Q r s') pl (by omega) (by omega) (by rw [List.size_toArray,<- hl];exact h1) (by simpa using ew) ⟨rfl,fin⟩) hs
theorem wN:IxR X rIxS:=by
 intro value slice pins s σ H x y v u Q I rx ry h hs;obtain ⟨z,i,c,rfl,rfl,hz,he,q⟩:=h;obtain ⟨t,rfl⟩:=rx;obtain ⟨t',rfl⟩:=ry;obtain ⟨j,h1,h2,h3,h4,h5⟩:=tT he;have hl:z.cps.toList.length=z.length:=by simp [Str.length]
 rw [hl] at h1 h4 h5;have hn:=iU;exact tail_any (typeIs_str s z t) slot_str_getitem.lookup (getItem_str (c:=c) (by
   have e1:decide (i < -(2^63:Int))=false:=decide_eq_false (by omega);have e2:decide (i ≥ 2^63)=false:=decide_eq_false (by omega);rw [e1,e2,Bool.or_false]) (by rw [h1];simpa using h2) ⟨.str ⟨#[c]⟩,H,I.tok _,⟨_,rfl⟩,q⟩) hs
theorem yq (its:List Value) (n j:Nat) (u:Value):Obj.mapSeq (·.setIfInBounds j u) { cls:=.type "list",data:=.seq its.toArray n }={ cls:=.type "list",data:=.seq (its.set j u).toArray n }:=by
 simp [Obj.mapSeq]
theorem Inv.lst {pins:List (Addr × Obj)} {σ:St} {H:Hp} {s:Shared} {p:Addr} {xs:List V} (I:Inv X pins σ H s) (h:H p=some (.lst xs)) :
   ∃ (its:List Value) (n:Nat),Vals xs its/\s.heap.get? p=some { cls:=.type "list",data:=.seq its.toArray n }/\xs.length<=sizeLine:=by
 obtain ⟨z,its,n,r,e⟩:=I.hok p _ h;exact ⟨its,n,r,e,z⟩
theorem Inv.lstUpd {pins:List (Addr × Obj)} {σ:St} {H:Hp} {s:Shared} {p:Addr} {xs ys:List V} {its its':List Value} {n n':Nat} {f:Obj->Obj} (I:Inv X pins σ H s) (h:H p=some (.lst xs))
   (ho:s.heap.get? p=some { cls:=.type "list",data:=.seq its.toArray n }) (hf:f { cls:=.type "list",data:=.seq its.toArray n }={ cls:=.type "list",data:=.seq its'.toArray n' }) (r:Vals ys its') (hz:ys.length<=sizeLine) (t:Nat) :
   Inv X pins σ (upd H p (.lst ys)) { s with heap:=s.heap.update p f,toks:=t }:=by
 have e:(s.heap.update p f).get? p=some { cls:=.type "list",data:=.seq its'.toArray n' }:=by
   rw [Heap.get?_update_self f ho (by rw [hf] <;> rfl),hf]
 refine I.write (x:=p) (e:=p) (by rw [h];trivial) (.inl rfl) (fun b u hb q=>(Heap.get?_update_other _ _ (Ne.symm hb)).trans q) ⟨_,e⟩ ?_;exact ⟨hz,its',n',r,e⟩
def rSetL:V->V->V->Hp->(Hp->Prop)->Prop:=fun o i v H Q=>∃ p xs k j,o=.ref p/\i=.int k/\H p=some (.lst xs)/\ixN xs.length k=some j/\Q (upd H p (.lst (xs.set j v)))
theorem Cf:EN X rSetL:=by
 intro pins s σ H o i v ov iv u Q I ro ri rv h;obtain ⟨p,xs,k,j,rfl,rfl,hp,hj,q⟩:=h;cases ro;obtain ⟨t,rfl⟩:=ri;obtain ⟨its,n,r,ho,hz⟩:=I.lst hp;obtain ⟨h1,h2,h3,h4⟩:=xZ hj;have hl:=r.length;have hn:=iU;have I':Inv X pins σ (upd H p (.lst (xs.set j v))) { s with heap:=s.heap.update p (Obj.mapSeq (·.setIfInBounds j u)) } :=
   I.lstUpd hp ho (yq its n j u) (r.set rv j) (by rw [List.length_set];exact hz) s.toks
 by_cases h0:0<=k
 . have hk:k.toNat=j:=by
     rw [seqIndex_of h0 h4] at h1;exact Option.some.inj h1
   exact PySem.W.ki_setAt ho h0 (by omega) (by rw [List.size_toArray,<- hl];exact h4) (by rw [hk];exact ⟨_,I',q⟩)
 . have hk:(k+(its.toArray.size:Int)).toNat=j:=by
     rw [seqIndex_neg (by omega) h3] at h1;rw [List.size_toArray,<- hl];exact Option.some.inj h1
   exact PySem.W.ki_setBack ho (by omega) (by rw [List.size_toArray,<- hl];exact h3) (by omega) (by rw [hk];exact ⟨_,I',q⟩)
theorem wk (lo hi:Option Int) (n:Nat):(sliceBounds lo hi none n).1=((HT.sIx n 0 lo:Nat):Int)/\(sliceBounds lo hi none n).2.1=((HT.sIx n n hi:Nat):Int)/\(sliceBounds lo hi none n).2.2=1:=by
 refine ⟨?_,?_,rfl⟩
 . cases lo with
   | none=>simp [sliceBounds,HT.sIx]
   | some i =>
     simp only [sliceBounds,HT.sIx,Option.getD_none,show (1:Int) > 0 by decide,if_true];by_cases h:i<0
     . simp only [h,if_true] <;> omega
     . simp only [h,if_false] <;> omega
 . cases hi with
   | none=>simp [sliceBounds,HT.sIx]
   | some i =>
     simp only [sliceBounds,HT.sIx,Option.getD_none,show (1:Int) > 0 by decide,if_true];by_cases h:i<0
     . simp only [h,if_true] <;> omega
     . simp only [h,if_false] <;> omega
theorem vm (its:List Value) (lo hi:Option Int):slicePick its.toArray lo hi none=((its.drop (HT.sIx its.length 0 lo)).take (HT.sIx its.length its.length hi - HT.sIx its.length 0 lo)).toArray:=by
 obtain ⟨h1,h2,h3⟩:=wk lo hi its.toArray.size;unfold slicePick;rw [h1,h2,h3];simp only [sliceRange_one,pick_run,List.size_toArray] <;> rfl
def Eg (K:PySem.W.Frag):V->Option Int->Option Int->Hp->VK->Prop:=fun x lo hi H Q=>∃ a xs,x=.ref a/\SqL K H a xs/\∀ p,H p=none->Q (.ref p) (upd H p (.lst (kh xs lo hi)))
theorem sU:SlR X (Eg X.K):=by
 intro pins s σ H x v vl vu lo hi sl Q I rx hs pl pu h;obtain ⟨a,xs,rfl,hx,q⟩:=h;cases rx;obtain ⟨its,r,ht,hz⟩:=I.list hx;have hlen:=r.length;refine ⟨"list",_,slot_list_getitem.lookup,ht.isList.typeIs,?_⟩;refine wpAny_getItem_list_slice ht.isList hs pl pu .none (by simp) ?_ (by rw [List.size_toArray] <;> omega);rw [vm,<- hlen];refine ⟨.ref s.heap.objs.size,_,I.laid (t':=s.toks) (o:=.lst (kh xs lo hi)) (fun b ob q=>Heap.get?_push_of_some _ q) (Nat.le_refl _) ?_,rfl,q _ (I.hok.fresh (Nat.le_refl _))⟩;exact ⟨Nat.le_trans (xC xs lo hi) hz,_,0,(r.drop (HT.sIx xs.length 0 lo)).take (HT.sIx xs.length xs.length hi - HT.sIx xs.length 0 lo),Heap.get?_push_size _ rfl⟩
def kQ:V->Bool
 | .non=>true
 | .bl _=>true
 | .int _=>true
 | .str _=>true
 | _=>false
def eqV:V->V->Bool
 | .non,.non=>true
 | .bl a,.bl b=>a == b
 | .bl a,.int b=>(if a then 1 else 0) == b
 | .int a,.bl b=>a == (if b then 1 else 0)
 | .int a,.int b=>a == b
 | .str a,.str b=>a == b
 | _,_=>false
theorem Ew {A:Around} {s:Shared} {y x:V} {u v:Value} (ry:RelV y u) (rx:RelV x v) (fy:kQ y=true) (fx:kQ x=true):SeqAt.EqAt A s u v (eqV y x):=by
 cases y with
 | non =>
   cases ry;cases x with
   | non=>cases rx;exact SeqAt.EqAt.same _
   | bl b=>cases rx;exact SeqAt.EqAt.none_bool b
   | int b=>obtain ⟨t,rfl⟩:=rx;exact SeqAt.EqAt.none_int b t
   | str b=>obtain ⟨t,rfl⟩:=rx;exact SeqAt.EqAt.none_str b t
   | _=>exact absurd (show false=true from fx) Bool.false_ne_true
 | bl a =>
   cases ry;cases x with
   | non=>cases rx;exact SeqAt.EqAt.bool_none a
   | bl b=>cases rx;exact SeqAt.EqAt.bool_bool a b
   | int b=>obtain ⟨t,rfl⟩:=rx;exact SeqAt.EqAt.bool_int a b t
   | str b=>obtain ⟨t,rfl⟩:=rx;exact SeqAt.EqAt.bool_str a b t
   | _=>exact absurd (show false=true from fx) Bool.false_ne_true
 | int a =>
   obtain ⟨t',rfl⟩:=ry;cases x with
   | non=>cases rx;exact SeqAt.EqAt.int_none a t'
   | bl b=>cases rx;exact SeqAt.EqAt.int_bool a t' b
   | int b=>obtain ⟨t,rfl⟩:=rx;exact SeqAt.EqAt.int_int a t' b t
   | str b=>obtain ⟨t,rfl⟩:=rx;exact SeqAt.EqAt.int_str a t' b t
   | _=>exact absurd (show false=true from fx) Bool.false_ne_true
 | str a =>
   obtain ⟨t',rfl⟩:=ry;cases x with
   | non=>cases rx;exact SeqAt.EqAt.str_none a t'
   | bl b=>cases rx;exact SeqAt.EqAt.str_bool a t' b
   | int b=>obtain ⟨t,rfl⟩:=rx;exact SeqAt.EqAt.str_int a t' b t
   | str b=>obtain ⟨t,rfl⟩:=rx;exact SeqAt.EqAt.str_str a t' b t
   | _=>exact absurd (show false=true from fx) Bool.false_ne_true
 | _=>exact absurd (show false=true from fy) Bool.false_ne_true
def eqU (x:V) (u:Value):Bool:=match u with
 | .none=>eqV .non x
 | .bool b=>eqV (.bl b) x
 | .int i _=>eqV (.int i) x
 | .str z _=>eqV (.str z) x
 | _=>false
theorem AJ {x y:V} {u:Value} (r:RelV y u) (f:kQ y=true):eqU x u=eqV y x:=by
 cases y with
 | non=>cases r;rfl
 | bl b=>cases r;rfl
 | int i=>obtain ⟨t,rfl⟩:=r;rfl
 | str z=>obtain ⟨t,rfl⟩:=r;rfl
 | _=>exact absurd (show false=true from f) Bool.false_ne_true
theorem tw {x:V}:∀ {xs:List V} {us:List Value},Vals xs us->xs.all kQ=true->us.any (eqU x)=xs.any fun y=>eqV y x
 | _,_,.nil,_=>rfl
 | y::xs,u::us,.cons r t,f=>by
   rw [List.all_cons,Bool.and_eq_true] at f;rw [List.any_cons,List.any_cons,AJ r f.1,tw t f.2]
theorem qi {A:Around} {s:Shared} {x:V} {v:Value} (rx:RelV x v) (fx:kQ x=true):∀ {xs:List V} {us:List Value},Vals xs us->xs.all kQ=true->∀ u∈us,SeqAt.EqAt A s u v (eqU x u)
 | _,_,.nil,_=>fun u hu=>by cases hu
 | y::xs,u::us,.cons r t,f=>fun u' hu=>by
   rw [List.all_cons,Bool.and_eq_true] at f;rcases List.mem_cons.mp hu with rfl|hu
   . rw [AJ r f.1];exact Ew r rx f.1 fx
   . exact qi rx fx t f.2 u' hu
def inV (x:V) (xs:List V):Bool:=xs.any fun y=>eqV y x
def rIn (K:PySem.W.Frag) (neg:Bool):R2:=fun x y H Q=>∃ p xs,y=.ref p/\(SqL K H p xs\/SqT K H p xs)/\kQ x=true/\xs.all kQ=true/\Q (.bl (if neg then !inV x xs else inV x xs)) H
theorem uE:OpR X (compareOp .In) (rIn X.K false):=by
 intro pins s σ H x y v u Q I rx ry h;obtain ⟨p,xs,rfl,hq,fx,fs,q⟩:=h;cases ry;rcases hq with hq|hq
 . obtain ⟨its,r,pl,hz⟩:=I.list hq;refine SeqAt.in_listAt (eqU x) pl.isList (fun w hw=>qi rx fx r fs w (by simpa using hw)) ⟨.bl _,H,I,rfl,?_⟩;rw [show its.toArray.any (eqU x)=its.any (eqU x) by simp,tw r fs];exact q
 . obtain ⟨its,r,pl,hz⟩:=I.tuple hq;refine SeqAt.in_tupleAt (eqU x) pl (fun w hw=>qi rx fx r fs w (by simpa using hw)) ⟨.bl _,H,I,rfl,?_⟩;rw [show its.toArray.any (eqU x)=its.any (eqU x) by simp,tw r fs];exact q
theorem wq:OpR X (compareOp .NotIn) (fun x y H Q=>∃ i j,x=.str i/\y=.str j/\Q (.bl (!(!(Builtin.Str.occurrences j i 0 j.length 1).isEmpty))) H):=by
 intro pins s σ H x y v u Q I rx ry h;obtain ⟨i,j,rfl,rfl,q⟩:=h;obtain ⟨t,rfl⟩:=rx;obtain ⟨t',rfl⟩:=ry;exact notIn_str ⟨.bl _,H,I,rfl,q⟩
theorem bU:dk X (.builtin "len") (fun xs H Q=>∃ p ys,xs=[.ref p]/\(SqL X.K H p ys\/SqT X.K H p ys)/\Q (.int ys.length) H):=by
 intro pins s σ H xs us Q I r h;obtain ⟨p,ys,rfl,hq,q⟩:=h;obtain ⟨u,rfl,rx⟩:=fo r;cases rx;have hn:=iU;rcases hq with hq|hq
 . obtain ⟨its,r',pl,hz⟩:=I.list hq;have hlen:=r'.length;exact Calls.call_len_list pl.isList (by simp only [List.size_toArray] <;> omega) ⟨.int ys.length,H,I.tok _,⟨s.toks+1,by rw [List.size_toArray,hlen]⟩,q⟩
 . obtain ⟨its,r',pl,hz⟩:=I.tuple hq;have hlen:=r'.length;exact len_tuple pl (by simp only [List.size_toArray] <;> omega) ⟨.int ys.length,H,I.tok _,⟨s.toks+1,by rw [List.size_toArray,hlen]⟩,q⟩
theorem eZ:dk X (.builtin "len") (fun xs H Q=>∃ z,xs=[.str z]/\z.length<=sizeLine/\Q (.int z.length) H):=by
 intro pins s σ H xs us Q I r h;obtain ⟨z,rfl,hz,q⟩:=h;obtain ⟨u,rfl,t,rfl⟩:=fo r;have hn:=iU;exact len_str (by omega) ⟨.int z.length,H,I.tok _,⟨_,rfl⟩,q⟩
theorem vG:dk X (.type "list") (fun xs H Q=>∃ p ys,xs=[.ref p]/\(SqL X.K H p ys\/SqT X.K H p ys)/\∀ l,H l=none->Q (.ref l) (upd H l (.lst ys))):=by
 intro pins s σ H xs us Q I r h;obtain ⟨p,ys,rfl,hq,q⟩:=h;obtain ⟨u,rfl,rx⟩:=fo r;cases rx;have fin:∀ (its:List Value),Vals ys its->ys.length<=sizeLine->∀ (h':Heap) (c':Nat),(∀ b o',s.heap.get? b=some o'->h'.get? b=some o') ->
     h'.get? s.heap.objs.size=some { cls:=.type "list",dict:=none,data:=.seq its.toArray c',slots:=#[] }->EP X pins σ Q (.ref s.heap.objs.size) { s with heap:=h' }:=fun its r' hz h' c' kp e =>
   ⟨.ref s.heap.objs.size,_,I.laid (t':=s.toks) kp (Nat.le_refl _) (show ObjOk X.prog X.w _ h' _ (.lst ys) from ⟨hz,its,c',r',e⟩),rfl,q _ (I.hok.fresh (Nat.le_refl _))⟩
 rcases hq with hq|hq
 . obtain ⟨its,r',pl,hz⟩:=I.list hq;have hlen:=r'.length;obtain ⟨o,ho,hc,n,hd⟩:=pl.isList;exact call_list_seq p (.inl rfl) ho hc hd (fun h' c' kp e=>fin its r' hz h' c' kp e) (by simp only [List.size_toArray] <;> omega)
 . obtain ⟨its,r',pl,hz⟩:=I.tuple hq;have hlen:=r'.length;obtain ⟨o,ho,hc,n,hd⟩:=pl;exact call_list_seq p (.inr rfl) ho hc hd (fun h' c' kp e=>fin its r' hz h' c' kp e) (by simp only [List.size_toArray] <;> omega)
theorem nH:dk X (.type "tuple") (fun xs H Q=>∃ p ys,xs=[.ref p]/\((SqL X.K H p ys/\∀ l,H l=none->Q (.ref l) (upd H l (.tup ys)))\/(SqT X.K H p ys/\Q (.ref p) H))):=by
 intro pins s σ H xs us Q I r h;obtain ⟨p,ys,rfl,h⟩:=h;obtain ⟨u,rfl,rx⟩:=fo r;cases rx;rcases h with ⟨hq,q⟩|⟨hq,q⟩
 . obtain ⟨its,r',pl,hz⟩:=I.list hq;have hlen:=r'.length;refine call_tuple_list pl.isList (fun h' kp=>?_) (by simp only [List.size_toArray] <;> omega);have I1:Inv X pins σ H { s with heap:=h' }:=I.kept (t':=s.toks) kp;have I2:Inv X pins σ (upd H h'.objs.size (.tup ys)) { s with heap:=h'.push { cls:=.type "tuple",data:=.seq its.toArray } } :=
     I1.laid (t':=s.toks) (fun b o e=>Heap.get?_push_of_some _ e) (Nat.le_refl _) (show ObjOk X.prog X.w _ _ _ (.tup ys) from ⟨hz,its,r',IsTup.new _ _⟩)
   exact ⟨.ref h'.objs.size,_,I2,rfl,q _ (I1.hok.fresh (Nat.le_refl _))⟩
 . obtain ⟨its,r',pl,hz⟩:=I.tuple hq;exact call_tuple_same pl ⟨.ref p,H,I,rfl,q⟩
def tyV (K:PySem.W.Frag) (T:String) (x:V) (H:Hp):Prop:=match x with
 | .str _=>T="str"
 | .int _=>T="int"
 | .ref p=>(T="list"/\∃ xs,SqL K H p xs)\/(T="tuple"/\∃ o,K.lookup p=some o/\o.cls=.type "tuple"/\o.dict=none) \/
     (T="dict"/\((∃ kvs,H p=some (.dK kvs))\/∃ kvs,H p=some (.dT kvs)))\/(T="set"/\∃ S n,H p=some (.set S n))
 | _=>False
theorem AK {pins:List (Addr × Obj)} {σ:St} {H:Hp} {s:Shared} {T:String} {x:V} {v:Value} (I:Inv X pins σ H s) (r:RelV x v) (ty:tyV X.K T x H) :
   s.TypeIs v T/\∀ a,v=.ref a->∃ ob,s.heap.get? a=some ob/\ob.dict=none:=by
 cases x with
 | str z =>
   obtain ⟨t,rfl⟩:=r;cases (show T="str" from ty);exact ⟨typeIs_str s z t,fun _ e=>nomatch e⟩
 | int i =>
   obtain ⟨t,rfl⟩:=r;cases (show T="int" from ty);exact ⟨typeIs_int s i t,fun _ e=>nomatch e⟩
 | ref p =>
   cases r;rcases ty with ⟨rfl,xs,hq⟩|⟨rfl,o,hk,hc,hd⟩|⟨rfl,hk⟩|⟨rfl,S,n,hk⟩
   . obtain ⟨its,_,pl,_⟩:=I.list hq;refine ⟨pl.isList.typeIs,fun a e=>?_⟩;cases e;obtain ⟨o,n,e,c,hd,_⟩:=pl;exact ⟨o,e,hd⟩
   . refine ⟨⟨o,I.kIn p o hk,hc⟩,fun a e=>?_⟩;cases e;exact ⟨o,I.kIn _ o hk,hd⟩
   . have z:∃ o,s.heap.get? p=some o/\o.ExactDict:=by
       rcases hk with ⟨kvs,hk⟩|⟨kvs,hk⟩
       . obtain ⟨_,_,_,_,o,_,_,e,ex,_⟩:=I.hok p _ hk;exact ⟨o,e,ex⟩
       . obtain ⟨_,_,_,_,o,_,_,e,ex,_⟩:=I.hok p _ hk;exact ⟨o,e,ex⟩
     obtain ⟨o,e,ex⟩:=z;refine ⟨⟨o,e,ex.1⟩,fun a e2=>?_⟩;cases e2;exact ⟨o,e,ex.2.1⟩
   . obtain ⟨o,_,_,_,e,ex,_⟩:=I.hok p _ hk;refine ⟨⟨o,e,ex.1⟩,fun a e2=>?_⟩;cases e2;exact ⟨o,e,ex.2.1⟩
 | _=>exact False.elim ty
def CN (K:PySem.W.Frag) (T:String) (r:V->List V->Hp->VK->Prop) (to:TE):TE:=fun σ H Q=>to σ H fun x H1=>tyV K T x H1/\r x [] H1 Q
def tBM (K:PySem.W.Frag) (T:String) (r:V->List V->Hp->VK->Prop) (to:TE) (t:TA):TE:=fun σ H Q=>to σ H fun x H1=>tyV K T x H1/\t σ H1 fun xs H2=>r x xs H2 Q
variable {o e:Expr} {es:List Expr} {to:TE} {t:TA} {name:Str} {apos cpos:Pos} {T id:String} {r:V->List V->Hp->VK->Prop}
theorem EV (pa:PlainAttrs T) (slot:Slot T name id) (hty:typeOf (.builtin id)=pure (.type "method_descriptor")) (hm:MtR X id r) (ho:PE X o to)
   (hbase:attributeBase o name X.env (eval o X.env)=eval o X.env:=by rfl) (hline:(apos.endLine == cpos.line)=true:=by rfl):PE X (.Call (.Attribute o name apos) [] [] cpos) (CN X.K T r to):=by
 intro pins s σ H Q I h;refine wpAny_Call_method0_late hbase hline (bc (ho pins s σ H _ I h) fun v s1 x H1 I1 r1 ⟨ty,q1⟩=>?_);obtain ⟨h1,h2⟩:=AK I1 r1 ty;exact ⟨T,id,pa,slot,hty,h1,h2,Calls.callWith_builtin rfl (PySem.evalArgs_none (hm pins s1 σ H1 x [] v [] Q I1 r1 .nil q1))⟩
theorem dl (pa:PlainAttrs T) (slot:Slot T name id) (hty:typeOf (.builtin id)=pure (.type "method_descriptor")) (hm:MtR X id r) (ho:PE X o to) (ha:PA X (e::es) t)
   (hbase:attributeBase o name X.env (eval o X.env)=eval o X.env:=by rfl)
   (hfew:((backTo cpos (starEach (e::es) X.env)).all (fun x=>!x.1) && (backToKw cpos (keywordEach [] X.env)).all (fun x=>x.1.isSome)
     && decide ((e::es).length+([]:List Keyword).length+(if ([]:List Keyword).isEmpty then 0 else 1)<30))=true:=by rfl)
   (hline:(apos.endLine == cpos.line)=true:=by rfl) (hs:starEach (e::es) X.env=(false,eval e X.env)::starEach es X.env:=by rfl) (hplain:(backTo cpos (starEach es X.env)).any (·.1)=false:=by rfl) :
   PE X (.Call (.Attribute o name apos) (e::es) [] cpos) (tBM X.K T r to t):=by
 intro pins s σ H Q I h;refine wpAny_Call_method_late hbase hfew hline rfl (bc (ho pins s σ H _ I h) fun v s1 x H1 I1 r1 ⟨ty,q1⟩=>?_);obtain ⟨h1,h2⟩:=AK I1 r1 ty;refine ⟨T,id,pa,slot,hty,h1,h2,?_⟩;have hA:=ha cpos pins s1 σ H1 _ I1 q1;rw [hs] at hA ⊢;refine Calls.callWith_builtin (by show (false || (backTo cpos (starEach es X.env)).any (·.1))=false;rw [hplain] <;> rfl) (Calls.evalArgs_plain ?_);exact thn hA fun us s2 ⟨vs,H2,I2,r2,q2⟩=>hm pins s2 σ H2 x vs v us Q I2 r1 r2 q2
end
end L2
namespace L2
open PySem PySem.Spec PyProof.Rows
def MtM (X:Cx) (id:String) (r:V->List V->Hp->VK->Prop):Prop :=
 ∀ (pins:List (Addr × Obj)) (s:Shared) (σ:St) (H:Hp) (x:V) (xs:List V) (v:Value) (us:List Value) (Q:VK),Inv X pins σ H s->RelV x v->Vals xs us->r x xs H Q ->
   wpAny (model X.prog X.w) X.A (call (.builtin id) (v::us)) (EP X pins σ Q) X.xe s
theorem Vals.one {x:V} {us:List Value} (h:Vals [x] us):∃ u,us=[u]/\RelV x u:=by
 cases h with
 | cons r t=>cases t;exact ⟨_,rfl,r⟩
theorem Vals.two {x y:V} {us:List Value} (h:Vals [x,y] us):∃ u v,us=[u,v]/\RelV x u/\RelV y v:=by
 cases h with
 | cons r t =>
   obtain ⟨v,e,q⟩:=Vals.one t;subst e;exact ⟨_,v,rfl,r,q⟩
theorem Vals.zero:∀ {us:List Value},Vals [] us->us=[]
 | _,.nil=>rfl
theorem Vals.dropLast {xs:List V} {us:List Value} (h:Vals xs us):Vals xs.dropLast us.dropLast:=by
 induction h with
 | nil=>exact .nil
 | cons r t ih =>
   cases t with
   | nil=>exact .nil
   | cons q t'=>exact .cons r ih
theorem Vals.eraseIdx:∀ {xs:List V} {us:List Value} (i:Nat),Vals xs us->Vals (xs.eraseIdx i) (us.eraseIdx i)
 | _,_,_,.nil=>.nil
 | _,_,0,.cons _ t=>t
 | _,_,i+1,.cons r t=>.cons r (Vals.eraseIdx i t)
theorem ym {α:Type} (l:List α):l.eraseIdx (l.length - 1)=l.dropLast:=by
 induction l with
 | nil=>rfl
 | cons a r ih =>
   cases r with
   | nil=>rfl
   | cons b r =>
     have e:(a::b::r).length - 1=((b::r).length - 1)+1:=by
       have h1:(a::b::r).length=r.length+2:=rfl;have h2:(b::r).length=r.length+1:=rfl;omega
     rw [e,List.eraseIdx_cons_succ,ih]
     all_goals rfl
theorem uA {α:Type}:∀ (l:List α) (i:Nat),(l.eraseIdx i).length<=l.length
 | [],_=>Nat.le_refl _
 | _::_,0=>Nat.le_succ _
 | _::r,i+1=>Nat.succ_le_succ (uA r i)
section
variable {X:Cx} {pins:List (Addr × Obj)} {σ:St} {H:Hp} {s:Shared} {l b:Addr} {xs ys zs:List V}
theorem Inv.lset {its its':List Value} {n:Nat} {f:Array Value->Array Value} {t':Nat} (I:Inv X pins σ H s) (hH:H l=some (.lst xs))
   (e:s.heap.get? l=some { cls:=.type "list",data:=.seq its.toArray n }) (hf:f its.toArray=its'.toArray) (hv:Vals ys its') (hz:ys.length<=sizeLine) :
   Inv X pins σ (upd H l (.lst ys)) { s with heap:=s.heap.update l (Obj.mapSeq f),toks:=t' }:=by
 have q:=PySem.IsL.update e f;rw [hf] at q;refine I.write (x:=l) (e:=l) (by rw [hH];exact trivial) (.inl rfl) (fun b' u hb hu=>(Heap.get?_update_other s.heap (Obj.mapSeq f) (Ne.symm hb)).trans hu) ⟨_,q⟩ ?_;exact ⟨hz,its',_,hv,q⟩
theorem Inv.lnew {its:List Value} {t':Nat} (I:Inv X pins σ H s) (hv:Vals ys its) (hz:ys.length<=sizeLine) :
   Inv X pins σ (upd H s.heap.objs.size (.lst ys)) { s with heap:=s.heap.push { cls:=.type "list",data:=.seq its.toArray },toks:=t' } :=
 I.laid (fun _ _ q=>Heap.get?_push_of_some _ q) (Nat.le_refl _) ⟨hz,its,0,hv,Heap.get?_push_size _ rfl⟩
theorem Inv.fresh (I:Inv X pins σ H s):H s.heap.objs.size=none:=I.hok.fresh (Nat.le_refl _)
theorem Inv.lstM (I:Inv X pins σ H s) (hH:H l=some (.lst xs)):xs.length<=sizeLine/\∃ (its:List Value) (n:Nat),Vals xs its/\xs.length=its.length/\s.heap.get? l=some { cls:=.type "list",data:=.seq its.toArray n }:=by
 obtain ⟨z,its,n,r,e⟩:=I.hok l _ hH;exact ⟨z,its,n,r,r.length,e⟩
end
section
variable {X:Cx}
def rAppend:V->List V->Hp->VK->Prop:=fun x vs H Q=>∃ l xs y,x=.ref l/\vs=[y]/\H l=some (.lst xs)/\xs.length<sizeLine/\Q .non (upd H l (.lst (xs++[y])))
theorem c7:MtM X "list.append" rAppend:=by
 intro pins s σ H x vs v us Q I rx rv h;obtain ⟨l,xs,y,rfl,rfl,hH,hz,q⟩:=h;cases rx;obtain ⟨u,rfl,ru⟩:=rv.one;obtain ⟨z,its,n,r,hl,e⟩:=I.lstM hH;refine call_meets F.slot_list_append ⟨_,e,rfl⟩ F.entry_list_append (F.args_list_append_2 _ _) (PySem.list_append l its.toArray n u (by rw [List.size_toArray];omega)) ⟨e,?_⟩;refine ⟨.non,_,I.lset (its':=its++[u]) hH e (by simp) (r.append (.cons ru .nil)) ?_,rfl,q⟩;rw [List.length_append,List.length_singleton];omega
def rPop:V->List V->Hp->VK->Prop:=fun x vs H Q=>∃ l xs y,x=.ref l/\vs=[]/\H l=some (.lst xs)/\xs[xs.length - 1]?=some y/\Q y (upd H l (.lst xs.dropLast))
theorem Ez:MtM X "list.pop" rPop:=by
 intro pins s σ H x vs v us Q I rx rv h;obtain ⟨l,xs,y,rfl,rfl,hH,hy,q⟩:=h;cases rx;have hus:=rv.zero;subst hus;obtain ⟨z,its,n,r,hl,e⟩:=I.lstM hH;obtain ⟨u,hu,ru⟩:=r.get hy;have hy':its.toArray[its.toArray.size - 1]?=some u:=by
   show its.toArray[its.length - 1]?=some u;rw [<- Array.getElem?_toList,<- hl];exact hu
 refine call_meets F.slot_list_pop ⟨_,e,rfl⟩ F.entry_list_pop (F.args_list_pop_1 _) (MeetsSeq.list_pop_last l its.toArray n u hy' (by rw [List.size_toArray];omega)) ⟨e,?_⟩;refine ⟨y,_,I.lset (its':=its.dropLast) hH e ?_ r.dropLast ?_,ru,q⟩
 . show its.toArray.eraseIdxIfInBounds (its.toArray.size - 1)=its.dropLast.toArray;rw [List.size_toArray,List.eraseIdxIfInBounds_toArray,ym]
 . rw [List.length_dropLast];omega
def rPopAt:V->List V->Hp->VK->Prop:=fun x vs H Q=>∃ l xs i k y,x=.ref l/\vs=[.int i]/\H l=some (.lst xs)/\-(2^63)<=i/\i<2^63/\seqIndex? i xs.length=some k/\xs[k]?=some y/\Q y (upd H l (.lst (xs.eraseIdx k)))
theorem Bp:MtM X "list.pop" rPopAt:=by
 intro pins s σ H x vs v us Q I rx rv h;obtain ⟨l,xs,i,k,y,rfl,rfl,hH,h1,h2,hk,hy,q⟩:=h;cases rx;obtain ⟨u,rfl,ru⟩:=rv.one;obtain ⟨t,rfl⟩:=ru;obtain ⟨z,its,n,r,hl,e⟩:=I.lstM hH;obtain ⟨w,hw,rw'⟩:=r.get hy;refine call_meets F.slot_list_pop ⟨_,e,rfl⟩ F.entry_list_pop (F.args_list_pop_2 _ _)
   (MeetsSeq.list_pop_at l its.toArray n i t k w (fitsIndex_both h1 h2) (by rw [List.size_toArray,<- hl];exact hk) (by rw [<- Array.getElem?_toList];exact hw) (by rw [List.size_toArray];omega)) ⟨e,?_⟩
 refine ⟨y,_,I.lset (its':=its.eraseIdx k) hH e ?_ (r.eraseIdx k) ?_,rw',q⟩
 . show its.toArray.eraseIdxIfInBounds k=(its.eraseIdx k).toArray;rw [List.eraseIdxIfInBounds_toArray]
 . have:=uA xs k;omega
def rCat:R2:=fun x y H Q=>∃ l b xs zs,x=.ref l/\y=.ref b/\H l=some (.lst xs)/\H b=some (.lst zs)/\xs.length+zs.length<=sizeLine/\∀ p,H p=none->Q (.ref p) (upd H p (.lst (xs++zs)))
theorem vY:OpR X (binaryOp .Add) rCat:=by
 intro pins s σ H x y v u Q I rx ry h;obtain ⟨l,b,xs,zs,rfl,rfl,hH,hB,hz,q⟩:=h;cases rx;cases ry;obtain ⟨z,its,n,r,hl,e⟩:=I.lstM hH;obtain ⟨z2,its2,n2,r2,hl2,e2⟩:=I.lstM hB;refine PySem.P.add_list e e2 ?_ (by rw [List.size_toArray,List.size_toArray];omega);have ea:its.toArray++its2.toArray=(its++its2).toArray:=by simp
 rw [ea];exact ⟨.ref _,_,I.lnew (t':=s.toks) (r.append r2) (by rw [List.length_append];omega),rfl,q _ I.fresh⟩
end
section
variable {prog:Program} {w:World} {A:Around} {E:Value->Shared->Prop} {s:Shared}
set_option maxRecDepth 100000 in
end
section
variable {X:Cx}
end
end L2
namespace L2
open PySem PySem.Spec PyProof.Rows
section
variable {κ:Type} [DecidableEq κ]
def h9 (kvs:List (κ × V)) (k:κ):Option V:=(kvs.find? fun kv=>decide (kv.1=k)).map (·.2)
def eK (kvs:List (κ × V)) (k:κ) (v:V):List (κ × V) :=
 if (kvs.any fun kv=>decide (kv.1=k))=true then kvs.map (fun kv=>if kv.1=k then (kv.1,v) else kv) else kvs++[(k,v)]
theorem mw {p:κ × V} {r:List (κ × V)} {k:κ} (e:p.1=k):h9 (p::r) k=some p.2:=by simp [h9,List.find?_cons,e]
theorem me {p:κ × V} {r:List (κ × V)} {k:κ} (e:¬ p.1=k):h9 (p::r) k=h9 r k:=by simp [h9,List.find?_cons,e]
theorem qj (k:κ):∀ kvs:List (κ × V),(kvs.any fun kv=>decide (kv.1=k))=(h9 kvs k).isSome
 | []=>rfl
 | p::r=>by
   rw [List.any_cons];by_cases e:p.1=k
   . simp only [mw e,decide_eq_true e,Bool.true_or,Option.isSome_some]
   . rw [me e,decide_eq_false e,Bool.false_or];exact qj k r
theorem lf (kvs:List (κ × V)) (k:κ) (v:V):(eK kvs k v).length<=kvs.length+1:=by
 unfold eK;split
 . rw [List.length_map];omega
 . rw [List.length_append,List.length_cons,List.length_nil];omega
theorem Bt {kvs:List (κ × V)} {k:κ} (v:V) (h:h9 kvs k=none):eK kvs k v=kvs++[(k,v)]:=by
 unfold eK;rw [qj,h];exact if_neg (by decide)
theorem RelO.isSome_eq {o:Option V} {u:Option Value} (r:RelO o u):o.isSome=u.isSome:=by
 cases o with
 | none=>cases u with
   | none=>rfl
   | some _=>exact (show False from r).elim
 | some _=>cases u with
   | none=>exact (show False from r).elim
   | some _=>rfl
theorem KV.val {kvs:List (κ × V)} {vs:List (κ × Value)} (r:KV kvs vs) (k:κ):RelO (h9 kvs k) (valueAt vs k):=by
 unfold KV at r
 induction r with
 | nil=>exact True.intro
 | @cons p q ps qs h t ih =>
   obtain ⟨h1,h2⟩:=h;by_cases e:p.1=k
   . have e':q.1=k:=h1.symm.trans e;have b:valueAt (q::qs) k=some q.2:=(by simp [valueAt,List.find?_cons,e']);rw [mw e,b];exact h2
   . have e':¬ q.1=k:=fun z=>e (h1.trans z);have b:valueAt (q::qs) k=valueAt qs k:=(by simp [valueAt,List.find?_cons,e']);rw [me e,b];exact ih
theorem KV.any {kvs:List (κ × V)} {vs:List (κ × Value)} (r:KV kvs vs) (k:κ):(kvs.any fun kv=>decide (kv.1=k))=vs.any fun kv=>decide (kv.1=k):=by
 unfold KV at r
 induction r with
 | nil=>rfl
 | cons h t ih=>rw [List.any_cons,List.any_cons,ih,h.1]
theorem KV.repl {kvs:List (κ × V)} {vs:List (κ × Value)} (r:KV kvs vs) (k:κ) {y:V} {u:Value} (ry:RelV y u) :
   KV (kvs.map fun kv=>if kv.1=k then (kv.1,y) else kv) (vs.map fun kv=>if kv.1=k then (kv.1,u) else kv):=by
 unfold KV at r ⊢
 induction r with
 | nil=>exact .nil
 | @cons p q ps qs h t ih =>
   rw [List.map_cons,List.map_cons];refine .cons ?_ ih;obtain ⟨h1,h2⟩:=h;by_cases e:p.1=k
   . rw [if_pos e,if_pos (h1.symm.trans e)];exact ⟨h1,ry⟩
   . rw [if_neg e,if_neg (fun z=>e (h1.trans z))];exact ⟨h1,h2⟩
theorem KV.put {kvs:List (κ × V)} {vs:List (κ × Value)} (r:KV kvs vs) (k:κ) {y:V} {u:Value} (ry:RelV y u):KV (eK kvs k y) (stored vs k u):=by
 unfold eK stored;rw [r.any k];by_cases e:(vs.any fun kv=>decide (kv.1=k))=true
 . rw [if_pos e,if_pos e];exact r.repl k ry
 . rw [if_neg e,if_neg e];exact Paired.snoc r ⟨rfl,ry⟩
theorem KV.length {kvs:List (κ × V)} {vs:List (κ × Value)} (r:KV kvs vs):kvs.length=vs.length:=Paired.length r
end
theorem vz {P:Program} {w:World} {k:Key} {u:Value} (r:RelV (kV k) u):(ce P w).is k u=true:=by
 cases k with
 | inl i=>obtain ⟨t,e⟩:=(show ∃ t,u=Value.int i t from r);subst e;exact xa P w i t
 | inr x=>obtain ⟨t,e⟩:=(show ∃ t,u=Value.str x t from r);subst e;exact xz P w x t
theorem uD {P:Program} {w:World}:∀ {ks:List Key} {us:List Value},Vals (ks.map kV) us->ItemsAre (ce P w) ks us
 | [],_,r=>by rw [List.map_nil] at r;cases r;exact .nil
 | k::ks,_,r=>by
   rw [List.map_cons] at r;cases r with
   | cons h t=>exact .cons (vz h) (uD t)
abbrev KT (H:Hp):List (List Key × V)->List (List Key × Addr × Value)->Prop:=Paired fun p q=>p.1=q.1/\H q.2.1=some (.tup (p.1.map kV))/\RelV p.2 q.2.2
theorem KT.val {H:Hp} {kvs:List (List Key × V)} {xs:List (List Key × Addr × Value)} (r:KT H kvs xs) (k:List Key):RelO (h9 kvs k) ((atKey xs k).map (·.2)):=by
 induction r with
 | nil=>exact True.intro
 | @cons p q ps qs h t ih =>
   obtain ⟨h1,_,h2⟩:=h;by_cases e:p.1=k
   . have e':q.1=k:=h1.symm.trans e;have b:atKey (q::qs) k=some q.2:=(by simp [atKey,List.find?_cons,e']);rw [mw e,b];exact h2
   . have e':¬ q.1=k:=fun z=>e (h1.trans z);have b:atKey (q::qs) k=atKey qs k:=(by simp [atKey,List.find?_cons,e']);rw [me e,b];exact ih
theorem KT.repl {H:Hp} {kvs:List (List Key × V)} {xs:List (List Key × Addr × Value)} (r:KT H kvs xs) (k:List Key) {y:V} {u:Value} (ry:RelV y u) :
   KT H (kvs.map fun kv=>if kv.1=k then (kv.1,y) else kv) (xs.map (putAt k u)):=by
 induction r with
 | nil=>exact .nil
 | @cons p q ps qs h t ih =>
   rw [List.map_cons,List.map_cons];refine .cons ?_ ih;obtain ⟨h1,h2,h3⟩:=h;unfold putAt;by_cases e:p.1=k
   . rw [if_pos e,if_pos (h1.symm.trans e)];exact ⟨h1,h2,ry⟩
   . rw [if_neg e,if_neg (fun z=>e (h1.trans z))];exact ⟨h1,h2,h3⟩
theorem KT.put {H:Hp} {kvs:List (List Key × V)} {xs:List (List Key × Addr × Value)} (r:KT H kvs xs) (k:List Key) {b:Addr} {y:V} {u:Value} (hb:H b=some (.tup (k.map kV))) (ry:RelV y u) :
   KT H (eK kvs k y) (storedH xs k b u):=by
 have e:(kvs.any fun kv=>decide (kv.1=k))=(atKey xs k).isSome:=by
   rw [qj,(r.val k).isSome_eq,Option.isSome_map]
 unfold eK storedH;rw [e];by_cases q:(atKey xs k).isSome=true
 . rw [if_pos q,if_pos q];exact r.repl k ry
 . rw [if_neg q,if_neg q];exact Paired.snoc r ⟨rfl,hb,ry⟩
theorem KT.keeps {H H':Hp} {kvs:List (List Key × V)} {xs:List (List Key × Addr × Value)} (r:KT H kvs xs) (ht:∀ b ys,H b=some (.tup ys)->H' b=some (.tup ys)):KT H' kvs xs :=
 Paired.mapP r fun _ _ z=>⟨z.1,ht _ _ z.2.1,z.2.2⟩
section
variable {P:Program} {w:World} {H:Hp} {h:Heap} {a:Addr}
theorem C5 {u:HO} (ok:HOk P w H h) (e:Rd H a u):ObjOk P w H h a u:=e.ok ok
theorem zB {kvs:List (Key × V)} (ok:HOk P w H h) (e:Rd H a (.dK kvs)):kvs.length<=sizeLine/\(a == sysModules)=false/\∃ vs,KV kvs vs/\h.DictOf (ce P w) a vs :=
 show ObjOk P w H h a (.dK kvs) from C5 ok e
theorem Dd {kvs:List (Key × V)} (ok:HOk P w H h) (e:H a=some (.dK kvs)):kvs.length<=sizeLine/\(a == sysModules)=false/\∃ vs,KV kvs vs/\h.DictOf (ce P w) a vs:=zB ok (.inl e)
theorem wE {ks:List Key} (ok:HOk P w H h) (e:H a=some (.tup (ks.map kV))):(tupleKind (ce P w)).is h ks a:=by
 obtain ⟨_,its,r,o,h1,h2,n,h3⟩:=(show ObjOk P w H h a (.tup (ks.map kV)) from ok a _ e);exact ⟨o,its.toArray,n,h1,h2,h3,by simpa using uD r⟩
theorem Dm {kvs:List (List Key × V)} (ok:HOk P w H h) (e:Rd H a (.dT kvs)):kvs.length<=sizeLine/\(a == sysModules)=false /\
   ∃ xs,KT H kvs xs/\h.DictOfH (tupleKind (ce P w)) a xs:=by
 obtain ⟨z,y,xs,r,o,es,ep,h1,h2,h3,h4,h5⟩:=(show ObjOk P w H h a (.dT kvs) from C5 ok e);refine ⟨z,y,xs,r,o,es,ep,h1,h2,h3,h4,fun x hx=>?_,h5⟩;have all:∀ {l:List (List Key × V)} {m:List (List Key × Addr × Value)},KT H l m->∀ x∈m,(tupleKind (ce P w)).is h x.1 x.2.1:=by
   intro l m q
   induction q with
   | nil=>intro x hx;exact nomatch hx
   | @cons p q ps qs hq t ih =>
     intro x hx;rcases List.mem_cons.mp hx with e|hx
     . subst e;exact wE ok (by rw [<- hq.1];exact hq.2.1)
     . exact ih x hx
 exact all r x hx
theorem Fq {kvs:List (List Key × V)} (ok:HOk P w H h) (e:H a=some (.dT kvs)):kvs.length<=sizeLine/\(a == sysModules)=false /\
   ∃ xs,KT H kvs xs/\h.DictOfH (tupleKind (ce P w)) a xs:=Dm ok (.inl e)
end
def DGet (H:Hp) (a:Addr) (y:V) (r:Option V):Prop :=
 (∃ kvs k,Rd H a (.dK kvs)/\y=kV k/\r=h9 kvs k)\/∃ kvs k b,Rd H a (.dT kvs)/\y=.ref b/\H b=some (.tup (k.map kV))/\r=h9 kvs k
def DPut (H:Hp) (a:Addr) (y v:V) (H':Hp):Prop :=
 (∃ kvs k,H a=some (.dK kvs)/\y=kV k/\kvs.length<sizeLine/\H'=upd H a (.dK (eK kvs k v))) \/
 ∃ kvs k b,H a=some (.dT kvs)/\y=.ref b/\H b=some (.tup (k.map kV))/\kvs.length<sizeLine/\H'=upd H a (.dT (eK kvs k v))
theorem DGet.k {H:Hp} {a:Addr} {kvs:List (Key × V)} {k:Key} (e:H a=some (.dK kvs)):DGet H a (kV k) (h9 kvs k):=.inl ⟨kvs,k,.inl e,rfl,rfl⟩
theorem DPut.k {H:Hp} {a:Addr} {kvs:List (Key × V)} {k:Key} {v:V} (e:H a=some (.dK kvs)) (hl:kvs.length<sizeLine):DPut H a (kV k) v (upd H a (.dK (eK kvs k v))):=.inl ⟨kvs,k,e,rfl,hl,rfl⟩
section
variable {X:Cx} {pins:List (Addr × Obj)} {σ:St} {H:Hp} {s:Shared} {a:Addr} {y v:V} {u r:Value} {o:Option V} {A:Around} {E:Value->Shared->Prop}
theorem Inv.big (I:Inv X pins σ H s):sysModules<s.heap.objs.size:=by
 have h:mainGlobals<s.heap.objs.size:=(I.mod.glob.keeps I.bk).lt;exact Nat.lt_trans (by decide) h
theorem D1 {Q:Value->Shared->Prop} (hu:A.units+1<cLine) (I:Inv X pins σ H s) (g:DGet H a y o) (ry:RelV y u) (h:∀ s',Inv X pins σ H s'->Q (.bool (!o.isSome)) s') :
   wpAny (model X.prog X.w) A (compareOp .NotIn u (.ref a)) Q E s:=by
 rcases g with ⟨kvs,k,e,ey,l⟩|⟨kvs,k,b,e,ey,eb,l⟩
 . subst ey;obtain ⟨z,hd,vs,rel,dd⟩:=zB I.hok e;refine wpAny_notIn_of (vz ry) hd dd.mapOf ?_;rw [<- (rel.val k).isSome_eq,<- l];exact h _ (I.tok _)
 . subst ey;cases (show u=Value.ref b from ry);obtain ⟨z,hd,xs,rel,dd⟩:=Dm I.hok e;refine wpAny_notIn_heap (tupleKind_room_in1 hu) (wE I.hok eb) hd dd ?_;have q:=(rel.val k).isSome_eq;rw [Option.isSome_map] at q;rw [<- q,<- l];exact h _ (I.tok _)
theorem sW {h':Heap} {t':Nat} {ob:HO} (I:Inv X pins σ H s) (mu:Mut (H a)) (hs:Heap.SameBut a s.heap h') (he:∃ q,h'.get? a=some q) (new:ObjOk X.prog X.w (upd H a ob) h' a ob) :
   Inv X pins σ (upd H a ob) { s with heap:=h',toks:=t' } :=
 I.write (x:=a) (e:=a) mu (.inl rfl) (fun b q hb z=>(hs.2 b hb).trans z) he new
theorem A9 {P:Program} {w:World} {H':Hp} {h':Heap} {kvs:List (Key × V)} {vs:List (Key × Value)} (z:kvs.length<=sizeLine) (hd:(a == sysModules)=false) (rel:KV kvs vs) (dd:h'.DictOf (ce P w) a vs) :
   ObjOk P w H' h' a (.dK kvs):=⟨z,hd,vs,rel,dd⟩
theorem AW {H':Hp} {Q:Unit->Shared->Prop} (hu:A.units+1<cLine) (I:Inv X pins σ H s) (g:DPut H a y v H') (ry:RelV y u) (rv:RelV v r) (h:∀ s',Inv X pins σ H' s'->Q () s') :
   wpAny (model X.prog X.w) A (setItem (.ref a) u r) Q E s:=by
 rcases g with ⟨kvs,k,e,ey,l,eH⟩|⟨kvs,k,b,e,ey,eb,l,eH⟩
 . subst ey eH;obtain ⟨z,hd,vs,rel,dd⟩:=Dd I.hok e;have hz:vs.length<=sizeLine:=by rw [<- rel.length];exact z
   have hl:(eK kvs k v).length<=sizeLine:=by have:=lf kvs k v;omega
   refine wpAny_setItem_pairs (hsz:=hz) (vz ry) dd fun h' dd' hs=>h _ ?_;have he:∃ q,h'.get? a=some q:=let ⟨q,_,_,hq,_⟩:=dd';⟨q,hq⟩;exact sW I (by rw [e];exact True.intro) hs he (A9 hl hd (rel.put k rv) dd')
 . subst ey eH;cases (show u=Value.ref b from ry);obtain ⟨z,hd,xs,rel,dd⟩:=Fq I.hok e;have hz:xs.length<=sizeLine:=by rw [<- Paired.length rel];exact z
   have hl:(eK kvs k v).length<=sizeLine:=by have:=lf kvs k v;omega
   refine wpAny_setItem_heap (hsz:=hz) (tupleKind_room_in1 hu) (wE I.hok eb) dd fun h' dd' hs=>h _ ?_;obtain ⟨q,es,ep,hq,h2,h3,h4,_,h5⟩:=dd';refine sW I (by rw [e];exact True.intro) hs ⟨q,hq⟩ ⟨hl,hd,_,(rel.put k eb rv).keeps fun c ys ec=>?_,q,es,ep,hq,h2,h3,h4,h5⟩;rw [am (zo ec e (fun z=>nomatch z))];exact ec
end
section
variable {X:Cx} {pins:List (Addr × Obj)} {σ:St} {H:Hp} {s:Shared} {a:Addr} {kvs:List (Key × V)} {k:Key} {u:Value} {A:Around} {E:Value->Shared->Prop}
theorem Fo {Q:Value->Shared->Prop} (I:Inv X pins σ H s) (e:Rd H a (.dK kvs)) (h:∀ t s',Inv X pins σ H s'->Q (.int kvs.length t) s'):wpAny (model X.prog X.w) A (call (.builtin "len") [.ref a]) Q E s:=by
 obtain ⟨z,hd,vs,rel,dd⟩:=zB I.hok e;refine call_len_dict hd dd (by rw [<- rel.length];rw [sizeLine_eq] at z;omega) ?_;rw [<- rel.length];exact h _ _ (I.tok _)
end
def Di (td ty:TE):TE:=fun σ H Q=>td σ H fun x H1=>ty σ H1 fun y H2=>∃ a v,x=.ref a/\DGet H2 a y (some v)/\Q v H2
def EU (ty td:TE):TE:=fun σ H Q=>ty σ H fun y H1=>td σ H1 fun x H2=>∃ a o,x=.ref a/\DGet H2 a y o/\Q (.bl o.isSome) H2
def tH (ty td:TE):TE:=fun σ H Q=>ty σ H fun y H1=>td σ H1 fun x H2=>∃ a o,x=.ref a/\DGet H2 a y o/\Q (.bl (!o.isSome)) H2
def y3 (td ty tv:TE):TS:=fun D σ H=>tv σ H fun v H1=>td σ H1 fun x H2=>ty σ H2 fun y H3=>∃ a H4,x=.ref a/\DPut H3 a y v H4/\D.nx σ H4
section
variable {X:Cx} {o i e value:Expr} {pos pos' tpos:Pos} {td ty tv:TE}
theorem Aw (hu:X.A.units+1<cLine) (hi:PE X i ty) (ho:PE X o td):PC X .NotIn i o (tH ty td):=by
 intro pins s σ H Q I h;refine bc (hi pins s σ H _ I h) fun iv s1 y H1 I1 ry q1=>bc (ho pins s1 σ H1 _ I1 q1) fun u s2 x H2 I2 rx ⟨a,ov,ex,g,q2⟩=>?_;subst ex;obtain rfl:u=Value.ref a:=rx;exact D1 hu I2 g ry fun s3 I3=>⟨.bl (!ov.isSome),H2,I3,rfl,q2⟩
theorem DV (hu:X.A.units+1<cLine) (ho:PE X o td) (hi:PE X i ty) (hv:PE X value tv) (hs:swapsWith value (some (.Subscript o i pos')) pos.line X.env=pure false) :
   PS X (.Assign [.Subscript o i pos'] value pos) (y3 td ty tv):=by
 intro pins s σ H D I h;refine wpAny_Assign_Subscript (bc (hv pins s σ H _ I h) fun r s1 v H1 I1 rv q1=>bc (ho pins s1 σ H1 _ I1 q1) fun u s2 x H2 I2 rx q2=>bc (hi pins s2 σ H2 _ I2 q2) fun iv s3 y H3 I3 ry ⟨a,H4,ex,g,q3⟩=>?_) hs;subst ex;obtain rfl:u=Value.ref a:=rx;exact AW hu I3 g ry rv fun s4 I4=>⟨σ,H4,I4,q3⟩
end
theorem Cy {P:Program} {w:World} {H:Hp} (h:Heap) (hb:sysModules<h.objs.size):ObjOk P w H (h.push { cls:=.type "dict",data:=.dict #[] }) h.objs.size (.dK []) :=
 ⟨Nat.zero_le _,beq_eq_false_iff_ne.mpr (Ne.symm (Nat.ne_of_lt hb)),[],.nil,Heap.DictOf.new h⟩
def AA:TE:=fun _ H Q=>∀ p,H p=none->Q (.ref p) (upd H p (.dK []))
def AI:TE:=fun _ H Q=>∀ p,H p=none->Q (.ref p) (upd H p (.dT []))
section
variable {X:Cx} {pos:Pos}
end
def lV:List (TE × TE)->St->Hp->(List (V × V)->Hp->Prop)->Prop
 | [],_,H,Q=>Q [] H
 | (tk,tv)::r,σ,H,Q=>tk σ H fun x H1=>tv σ H1 fun y H2=>lV r σ H2 fun ps H3=>Q ((x,y)::ps) H3
abbrev VV:List (V × V)->List (Value × Value)->Prop:=Paired fun p q=>RelV p.1 q.1/\RelV p.2 q.2
def PPs (X:Cx) (pos:Pos) (keys:List (Option Expr)) (values:List Expr) (trs:List (TE × TE)):Prop :=
 ∀ (pins:List (Addr × Obj)) (s:Shared) (σ:St) (H:Hp) (Q:List (V × V)->Hp->Prop),Inv X pins σ H s->lV trs σ H Q ->
   wpAny (model X.prog X.w) X.A (evalPairs (pairTrees keys values X.env pos)) (fun vs s'=>∃ ps H',Inv X pins σ H' s'/\VV ps vs/\Q ps H') X.xe s
theorem DR {X:Cx} {pos:Pos}:PPs X pos [] [] []:=fun pins s σ H Q I h=>pairTrees_nil_walk ⟨[],H,I,.nil,h⟩
theorem CD {X:Cx} {pos:Pos} {k v:Expr} {ks:List (Option Expr)} {vs:List Expr} {tk tv:TE} {trs:List (TE × TE)} (hk:PE X k tk) (hv:PE X v tv) (hr:PPs X pos ks vs trs) :
   PPs X pos (some k::ks) (v::vs) ((tk,tv)::trs):=fun pins s σ H Q I h =>
 pairTrees_cons_walk (bc (hk pins s σ H _ I h) fun u s1 x H1 I1 rx q1=>bc (hv pins s1 σ H1 _ I1 q1) fun w2 s2 y H2 I2 ry q2 =>
   thn (hr pins s2 σ H2 _ I2 q2) fun ws s3 ⟨ps,H3,I3,rel,q3⟩=>⟨(x,y)::ps,H3,I3,.cons ⟨rx,ry⟩ rel,q3⟩)
def lR (kvs more:List (Key × V)):List (Key × V):=more.foldl (fun acc kv=>eK acc kv.1 kv.2) kvs
theorem KV.merge:∀ {more:List (Key × V)} {rs:List (Key × Value)} {kvs:List (Key × V)} {vs:List (Key × Value)},KV more rs->KV kvs vs->KV (lR kvs more) (merged vs rs):=by
 intro more rs kvs vs r;unfold KV at r
 induction r generalizing kvs vs with
 | nil=>intro q;exact q
 | @cons p q ps qs h t ih =>
   intro r0;have e:KV (eK kvs p.1 p.2) (stored vs q.1 q.2):=by
     have:=r0.put p.1 h.2;rw [<- h.1];exact this
   exact ih e
theorem nG:∀ (more kvs:List (Key × V)),(lR kvs more).length<=kvs.length+more.length
 | [],kvs=>by show kvs.length<=kvs.length+0;omega
 | p::r,kvs=>by
   have h1:=nG r (eK kvs p.1 p.2);have h2:=lf kvs p.1 p.2;show (lR (eK kvs p.1 p.2) r).length<=_;rw [List.length_cons];omega
theorem sr {P:Program} {w:World}:∀ {kvs:List (Key × V)} {ws:List (Value × Value)},VV (kvs.map fun kv=>(kV kv.1,kv.2)) ws->∃ rs,Carries (ce P w) ws rs/\KV kvs rs
 | [],_,r=>by rw [List.map_nil] at r;cases r;exact ⟨[],True.intro,.nil⟩
 | p::kvs,_,r=>by
   rw [List.map_cons] at r;cases r with
   | @cons a b as bs h t =>
     obtain ⟨rs,c,q⟩:=sr (P:=P) (w:=w) t;obtain ⟨b1,b2⟩:=b;exact ⟨(p.1,b2)::rs,⟨vz h.1,rfl,c⟩,.cons ⟨rfl,h.2⟩ q⟩
def yZ (trs:List (TE × TE)):TE:=fun σ H Q=>∀ p,H p=none->lV trs σ (upd H p (.dK [])) fun ps H2=>H2 p=some (.dK [])/\∃ kvs:List (Key × V),ps=kvs.map (fun kv=>(kV kv.1,kv.2))/\kvs.length<=15/\Q (.ref p) (upd H2 p (.dK (lR [] kvs)))
theorem DS {X:Cx} {pos:Pos} {keys:List (Option Expr)} {values:List Expr} {trs:List (TE × TE)} (h:PPs X pos keys values trs) (hall:keys.all (·.isSome)=true) (hl:keys.length=values.length) (h0:keys≠[])
   (h15:keys.length<=15):PE X (.Dict keys values pos) (yZ trs):=by
 intro pins s σ H Q I q;have hn:=I.hok.fresh (Nat.le_refl s.heap.objs.size);have I1:=I.laid (a:=s.heap.objs.size) (o:=.dK []) (h':=s.heap.push { cls:=.type "dict",data:=.dict #[] }) (t':=s.toks) (fun _ _ q=>Heap.get?_push_of_some _ q) (Nat.le_refl _) (Cy s.heap I.big);refine wpAny_Dict_walk (knd:=ce X.prog X.w) hall hl h0 h15 (thn (h pins _ σ _ _ I1 (q _ hn)) fun ws s2 ⟨ps,H2,I2,rel,e,kvs,ep,lk,q2⟩=>?_);subst ep;obtain ⟨rs,c,rk⟩:=sr (P:=X.prog) (w:=X.w) rel;obtain ⟨z,hd,vs0,r0,dd⟩:=Dd I2.hok e;cases r0;refine ⟨rs,c,dd,fun h' dd' hs=>⟨.ref s.heap.objs.size,_,?_,rfl,q2⟩⟩;have hz:(lR [] kvs).length<=sizeLine:=by
   have h1:=nG kvs [];rw [List.length_nil] at h1;rw [sizeLine_eq];omega
 have he:∃ q,h'.get? s.heap.objs.size=some q:=let ⟨q,_,_,hq,_⟩:=dd';⟨q,hq⟩;exact sW I2 (by rw [e];exact True.intro) hs he (A9 hz hd (rk.merge .nil) dd')
section
variable {X:Cx} {pins:List (Addr × Obj)} {σ:St} {H:Hp} {s:Shared} {a:Addr} {y d:V} {u r:Value} {o:Option V} {A:Around} {E:Value->Shared->Prop}
end
section
variable {X:Cx} {o e f:Expr} {apos cpos:Pos} {td ty tx:TE}
end
section
variable {X:Cx} {pins:List (Addr × Obj)} {σ:St} {H:Hp} {s:Shared} {a:Addr} {kvs:List (Key × V)} {A:Around} {E:Value->Shared->Prop}
end
section
variable {X:Cx} {pins:List (Addr × Obj)} {σ:St} {H:Hp} {s:Shared} {a:Addr} {y:V} {u:Value} {A:Around} {E:Value->Shared->Prop}
end
end L2
namespace Att
open PySem PySem.W PySem.Calls PyProof.Rows
theorem qX {P:Params} {h:Heap}:∀ (ns:List Int) (vs:List Value),WellAll P h vs (ns.map WData.int)->IntsAre vs ns:=by
 intro ns
 induction ns with
 | nil =>
   intro vs w;rw [List.map_nil] at w;cases w;exact .nil
 | cons n ns ih =>
   intro vs w;rw [List.map_cons] at w;cases w with
   | cons a b =>
     cases a;exact .cons _ _ (ih _ b)
theorem Ad {l:OpenLaw} {n:Nat} (hn:l.most=some n) {P:Params} {h:Heap} {args:List WData} {vals:List Value}
   (hpre:l.row.toRowW.claim.pre args=true) (hwl:WellAll P h vals args) :
   ∃ a vs ns,vals=[Value.ref a]/\args=[WData.list (ns.map WData.int)]/\h.get? a=some { cls:=.type "list",data:=.seq vs.toArray }/\IntsAre vs ns/\ns.length<=n:=by
 have hsh:WShape.hasAll [] args [.list .int]=true:=(pre_splitW hpre).1;have hc:l.pre.holds [] { args:=args }=true:=(pre_splitW hpre).2;obtain ⟨d,r,rfl,h1,h2⟩:=hasAllW_cons hsh;obtain rfl:=hasAllW_nil h2;obtain ⟨xs,rfl,h3⟩:=hasW_list h1;obtain ⟨ns,rfl⟩:=items_int h3;have hlen:ns.length<=n:=by
   unfold OpenLaw.pre at hc;have h4:(WTm.not (.lt (.lit (.int (n:Int))) (.len (.arg 0)))).holds [] { args:=[.list (ns.map .int)] }=true:=by
     have h4:=(holds_andW hc).1;rw [hn] at h4;exact h4
   have h5:=condW_of h4 (w_not (w_lt w_lit (w_len_list (w_arg rfl))));rw [List.length_map] at h5;refine Nat.le_of_not_lt fun q=>?_;have q':(n:Int)<((ns.length:Nat):Int):=by omega
   first
     | (rw [decide_eq_true q'] at h5;exact absurd h5 (by decide))
     | (simp at h5;omega)
 cases hwl with
 | cons w1 w2 =>
   cases w2;cases w1 with
   | list ho hall=>exact ⟨_,_,ns,rfl,rfl,ho,qX ns _ hall,hlen⟩
theorem AN (l:OpenLaw) (args:List WData):l.row.toRowW.claim.post args (.bool true) args=true :=
 postW_of (r:=l.row.toRowW) (X:=(true == true))
   (show WShape.has [] (.bool true) .bool=true by first|rfl|decide|simp [WShape.has,WShape.arms,WShape.armsAll])
   (show (WTm.eq .res (.lit (.bool true))).value [] { args:=args,res:=some (.bool true),after:=args }=some (.bool (true == true)) from w_eq_bool (w_res rfl) w_lit) rfl
theorem attach_call {l:OpenLaw} {n:Nat} {q:Program} {loose:List Str} {XP:(Str->Option Value)->Heap->Prop} {YP:World->Heap->Prop} {d:DefRec}
   (hn:l.most=some n) (hdf:d.params.defaults=[])
   (call:∀ (w:World) (s₀ s₁:Shared) (mg mb:Str->Option Value) (fa:Addr) (o:Obj) (pm cd doc:Value) (a:Addr) (vs:List Value) (ns:List Int),
     Ground q loose [] XP w s₀ mg mb s₁.heap->YP w s₁.heap ->
     s₁.heap.get? fa=some o->o.data=.func (docDef d.name d.params d.body d.scope pm cd doc)->s₁.heap.CodeRec cd d.name->mg d.name=some (.ref fa) ->
     s₁.heap.get? a=some { cls:=.type "list",data:=.seq vs.toArray }->IntsAre vs ns->ns.length<=n->s₁.gens=#[] ->
     codeAny (model l.prog w) callerA (.call (.ref fa) ⟨[.ref a],[]⟩) (fun r s'=>r=.ok (.ret (.bool true))/\OldK s₁.heap s'.heap/\s'.os=s₁.os/\AllBare s'.gens) s₁) :
   WalkO q loose XP YP l.row.toRowW d [] (fun f vs=>PySem.call f vs):=by
 intro w s₀ s₁ mg mb G Y fa o pm cd doc dV kV ho hd hcd hD hmg hg args vals as hpre hlay hrd hwl hlo;obtain rfl:dV=.none:=Dflts.none hD hdf;obtain rfl:kV=.none:=Dflts.noKw hD;obtain ⟨a,vs,ns,rfl,rfl,hobj,hints,hlen⟩:=Ad hn hpre hwl;refine enter_call (codeAny_mono (call w s₀ s₁ mg mb fa o pm cd doc a vs ns G Y ho (fd_plain hd) hcd hmg hobj hints hlen hg) fun r s' hq=>?_);obtain ⟨rfl,h2,h3,h4⟩:=hq;exact ⟨.inl ⟨.bool true,.bool true,[],rfl,fun _=>rfl,.bool true,AN l _,fun _=>⟨List.Pairwise.nil,fun _ hm=>(nomatch hm)⟩⟩,h2,h3,h4⟩
section
variable {prog:Program} {w:World} {A:Around} {E:Value->Shared->Prop} {s:Shared} {K:Frag}
end
end Att
namespace L2
open PySem PySem.Spec PyProof.Rows
theorem ut:∀ {vs:List Value} {ns:List Int},IntsAre vs ns->Vals (ns.map V.int) vs
 | _,_,.nil=>.nil
 | _,_,.cons n t h=>.cons ⟨t,rfl⟩ (ut h)
def Bo (H:Hp):Prop:=∀ b,H b=none\/∃ o xs,H b=some (.frz o (.lst xs))
theorem BQ {P:Program} {w:World} {K:PySem.W.Frag} {mg mb:Str->Option Value} {CX:CXT} {k:Nat} {fa a:Addr} {fd:FuncData} {x:Str} {sp:Sp} {s₁:Shared} {vs:List Value} {ns:List Int}
   (KX:K.In s₁.heap) (hns:s₁.heap.Ns mainGlobals mg) (hb:s₁.heap.Ns builtinsNs mb) (hbb:∀ x:Str,x≠"__name__"->mb x=bootBuiltins x) (hlim:s₁.heap.NoLimit) (hg:s₁.gens=#[])
   (ha:s₁.heap.get? a=some { cls:=.type "list",data:=.seq vs.toArray }) (hi:IntsAre vs ns) (hl:ns.length<=sizeLine) (hr:Room k callerA)
   (F:∀ base:Heap,K.In base->base.Ns mainGlobals mg->FnOk P w K mg base CX k fa fd [x] sp) (hbind:∀ (s:Shared) (u:Value),BindsTo s fd ⟨[u],[]⟩ [(x,u)])
   (hsp:∀ H:Hp,Bo H->SqL K H a (ns.map V.int)->sp [.ref a] H (fun v _=>v=.bl true) fun _ _ _=>False)
   (hCX:∀ H e s',CX [] H s₁ (fun _ _ _=>False) e s'->False) :
   codeAny (model P w) callerA (.call (.ref fa) ⟨[.ref a],[]⟩) (fun r s'=>r=.ok (.ret (.bool true))/\OldK s₁.heap s'.heap/\s'.os=s₁.os/\AllBare s'.gens) s₁:=by
 have rv:=ut hi;have lenV:=hi.length;have core:∀ H:Hp,Bo H->SqL K H a (ns.map V.int)->HOk P w H s₁.heap->(∀ b,H b≠none->b=a)->(H a≠none->K.lookup a=none) ->
     codeAny (model P w) callerA (.call (.ref fa) ⟨[.ref a],[]⟩) (fun r s'=>r=.ok (.ret (.bool true))/\OldK s₁.heap s'.heap/\s'.os=s₁.os/\AllBare s'.gens) s₁:=by
   intro H hO hS hok hA hK;have base_of:∀ {b:Addr} {o:Obj},s₁.heap.get? b=some o->H b=none->(mG s₁.heap H).get? b=some o:=fun e n=>BL e n;have noA:∀ {b:Addr} {o:Obj} {es:Array DictEntry} {ep:Nat},s₁.heap.get? b=some o->o.data=.dict es ep->H b=none:=fun {b o es ep} e d=>by
     cases q:H b with
     | none=>rfl
     | some u =>
       have e':b=a:=hA b (by rw [q];simp);subst e';rw [ha] at e;cases e;have d':Data.seq vs.toArray _=Data.dict es ep:=d;cases d'
   have nsK:∀ {b:Addr} {m:Str->Option Value},s₁.heap.Ns b m->(mG s₁.heap H).Ns b m:=fun {b m} ⟨o,es,ep,e,d,r⟩=>⟨o,es,ep,base_of e (noA e d),d,r⟩;have hKb:K.In (mG s₁.heap H):=fun b o e=>base_of (KX b o e) (by
     cases q:H b with
     | none=>rfl
     | some u =>
       have e':b=a:=hA b (by rw [q];simp);subst e';rw [hK (by rw [q];simp)] at e;cases e)
   have hM:Mod K mg (mG s₁.heap H):=⟨hKb,nsK hns,⟨mb,nsK hb,hbb⟩,let ⟨mc,h1,h2⟩:=hlim;⟨mc,nsK h1,h2⟩⟩;have e0:Env0 P w K mg (mG s₁.heap H) callerA [] s₁ H:=⟨rfl,hM,fun b o e=>DC e,Nat.le_of_eq (AV _ _),trivial,fun b hb=>absurd (show b∈([]:List Addr) from hb) (by simp),hok,.of_eq hg⟩;refine codeAny_mono ((F _ hKb (nsK hns)).run callerA [] s₁ H ⟨[.ref a],[]⟩ [.ref a] [.ref a] _ _ hr e0 (hbind s₁ (.ref a)) (.cons rfl .nil) (hsp H hO hS)) fun r s' h=>?_;cases r with
   | error e=>exact (hCX H e s' h).elim
   | ok fl =>
     cases fl with
     | next=>exact False.elim h
     | brk=>exact False.elim h
     | cont=>exact False.elim h
     | ret u =>
       obtain ⟨v,H',os,bare,un,hok',r',q⟩:=h;have q':v=.bl true:=q;subst q';obtain rfl:u=Value.bool true:=r';refine ⟨rfl,OldK.of_keep fun b o e=>?_,os,bare⟩;cases q:H b with
       | none=>exact un.keep b o e q (by intro z;exact absurd (show b∈([]:List Addr) from z) (by simp)) (by simp)
       | some u =>
         rcases hO b with z|⟨ob,xs,z⟩
         . rw [q] at z;cases z
         . have z2:=un.frzs b ob _ z;obtain ⟨e1,_⟩:=hok b _ z;obtain ⟨e2,_⟩:=hok' b _ z2;rw [e] at e1;cases e1;exact e2
 cases hk:K.lookup a with
 | some o =>
   have e:=KX a o hk;rw [ha] at e;cases e;refine core (fun _=>none) (fun _=>.inl rfl) (.inr ⟨_,vs.toArray,_,hk,rfl,rfl,rfl,by rw [List.size_toArray,lenV];exact hl,by simpa using rv⟩) (fun b u z=>by have z':(none:Option HO)=some u:=z;cases z') (fun b z=>absurd rfl z) fun z=>absurd rfl z
 | none =>
   refine core (fun b=>if b=a then some (.frz { cls:=.type "list",data:=.seq vs.toArray } (.lst (ns.map V.int))) else none) (fun b=>?_) (.inl (.inr ⟨{ cls:=.type "list",data:=.seq vs.toArray },if_pos rfl⟩)) (fun b u z=>?_) (fun b z=>?_) fun _=>hk
   . by_cases hb:b=a
     . exact .inr ⟨_,_,if_pos hb⟩
     . exact .inl (if_neg hb)
   . by_cases hb:b=a
     . have z':=(if_pos hb).symm.trans z;cases z';subst hb;exact ⟨ha,by rw [List.length_map];exact hl,vs,_,rv,ha⟩
     . have z':=(if_neg hb).symm.trans z;cases z'
   . by_cases hb:b=a
     . exact hb
     . exact absurd (if_neg hb) z
end L2
namespace L2
open PySem PySem.Spec PyProof.Rows
theorem walk_of {l:PySem.W.OpenLaw} {n k:Nat} {q:Program} {loose:List Str} {XP:(Str->Option Value)->Heap->Prop} {YP:World->Heap->Prop} {d:DefRec} {K:Params->PySem.W.Frag} {CX:World->CXT} {sp:World->Sp} {x:Str}
   (hn:l.most=some n) (hn2:n<=sizeLine) (hdf:d.params.defaults=[]) (hr:Room k callerA)
   (hY:∀ (w:World) (h:Heap),YP w h->(K w.params).In h)
   (F:∀ (w:World) (mg:Str->Option Value) (fa:Addr) (h:Heap),(K w.params).In h->h.Ns mainGlobals mg->mg d.name=some (.ref fa) ->
     ∃ fd:FuncData,(∀ (s:Shared) (u:Value),BindsTo s fd ⟨[u],[]⟩ [(x,u)]) /\
       ∀ base:Heap,(K w.params).In base->base.Ns mainGlobals mg->FnOk l.prog w (K w.params) mg base (CX w) k fa fd [x] (sp w))
   (hsp:∀ (w:World) (H:Hp) (a:Addr) (ns:List Int),ns.length<=n->Bo H->SqL (K w.params) H a (ns.map V.int)->sp w [.ref a] H (fun v _=>v=.bl true) fun _ _ _=>False)
   (hCX:∀ (w:World) (H:Hp) (s:Shared) (e:Value) (s':Shared),CX w [] H s (fun _ _ _=>False) e s'->False) :
   PySem.W.WalkO q loose XP YP l.row.toRowW d [] (fun f vs=>PySem.call f vs):=by
 refine Att.attach_call hn hdf fun w s₀ s₁ mg mb fa o pm cd doc a vs ns G Y ho hd hcd hmg hobj hints hlen hg=>?_;have KX:=hY w _ Y;obtain ⟨fd,hb,hF⟩:=F w mg fa _ KX G.T.g hmg;exact BQ KX G.T.g G.T.b G.T.builtins G.T.nolimit hg hobj hints (Nat.le_trans hlen hn2) hr hF hb (fun H hO hS=>hsp w H a ns hlen hO hS) fun H e s'=>hCX w H s₁ e s'
end L2
namespace L2
open PySem PySem.Spec PyProof.Rows
def xU (s:Stmt) (j:Nat):Stmt:=match s with
 | .ClassDef _ _ _ body _ _ _ _ _ _ _=>body.getD j (.Pass ⟨0,0,0,0⟩)
 | _=>.Pass ⟨0,0,0,0⟩
def aL (s:Stmt):Arguments:=match s with
 | .FunctionDef _ a _ _ _ _ _ _ _ _=>a
 | _=>{ posonlyargs:=[],args:=[],vararg:=none,kwonlyargs:=[],kw_defaults:=[],kwarg:=none,defaults:=[] }
def aD (s:Stmt):List Stmt:=match s with
 | .FunctionDef _ _ b _ _ _ _ _ _ _=>b
 | _=>[]
def aa (s:Stmt):Scope:=match s with
 | .FunctionDef _ _ _ _ _ _ sc _ _ _=>sc
 | _=>{ kind:=.function,names:=[],isGenerator:=false,isCoroutine:=false }
abbrev CX0:CXT:=fun _ _ _ _ _ _=>False
abbrev E0:XK:=fun _ _ _=>False
structure Fun (K:PySem.W.Frag) (x qual:Str) (st:Stmt) (f:Addr) (fd:FuncData):Prop where
 ex:∃ (oc:Value) (od:Option Addr) (kV doc pm:Value) (an:Option Addr) (cdv ct:Value) (osl:Array (Option Value)),
   fd=PySem.W.fnOf x qual (aL st) (aD st) (aa st) .none kV doc pm an cdv ct/\K.lookup f=some ⟨oc,od,.func fd,osl⟩/\PySem.W.codeIn K cdv qual=true
 kp:PySem.W.keepIn K (.ref f)=true
section
variable {P:Program} {w:World} {K:PySem.W.Frag} {mg:Str->Option Value} {base:Heap}
theorem Fun.binds {x qual:Str} {st:Stmt} {f:Addr} {fd:FuncData} {ps:List Str} (F:Fun K x qual st f fd)
   (h:∀ (kV doc pm:Value) (an:Option Addr) (cdv ct:Value) (us:List Value),us.length=ps.length->bindArgs (PySem.W.fnOf x qual (aL st) (aD st) (aa st) .none kV doc pm an cdv ct) ⟨us,[]⟩=pure (ps.zip us)):Binds K fd ps []:=by
 obtain ⟨oc,od,kV,doc,pm,an,cdv,ct,osl,rfl,lk,hcd⟩:=F.ex;exact .all (h kV doc pm an cdv ct)
theorem bw {x qual:Str} {st:Stmt} {f:Addr} {oc:Value} {od an:Option Addr} {osl:Array (Option Value)} {kV doc pm cdv ct:Value} (l:K.lookup f=some ⟨oc,od,.func (PySem.W.fnOf x qual (aL st) (aD st) (aa st) .none kV doc pm an cdv ct),osl⟩)
   (c:PySem.W.codeIn K cdv qual=true) (k:PySem.W.keepIn K (.ref f)=true):Fun K x qual st f (PySem.W.fnOf x qual (aL st) (aD st) (aa st) .none kV doc pm an cdv ct):=⟨⟨oc,od,kV,doc,pm,an,cdv,ct,osl,rfl,l,c⟩,k⟩
end
theorem Fv {A:Around} {k:Nat} (hr:Room k A):A.units+1<cLine:=Nat.lt_of_le_of_lt (Nat.add_le_add_left (by decide:1<=64) _) hr.units
section
variable {X:Cx}
theorem pv (i:Nat) {x:Str} {pos:Pos} (hN:X.N[i]?=some x:=by rfl) (hv:Vis X.env.scope x:=by first|exact Or.inl rfl|exact Or.inr (Or.inl rfl)|exact Or.inr (Or.inr rfl)) (hd:(x == ("__debug__":Str))=false:=by decide)
   (hcd:(x == ("__classdict__":Str))=false:=by decide):PE X (.Name x pos) (sR i):=v6 hN hv hd hcd
end
theorem FD {A B:Prop} (h:B):if false=true then A else B:=by
 rw [if_neg Bool.false_ne_true];exact h
theorem FM {A B:Prop} (h:A):if true=true then A else B:=by
 rw [if_pos rfl];exact h
def Same (H H':Hp):Prop:=∀ b o,H b=some o->H' b=some o
theorem Same.refl (H:Hp):Same H H:=fun _ _ h=>h
theorem Same.trans {H H1 H2:Hp} (a:Same H H1) (b:Same H1 H2):Same H H2:=fun c o h=>b c o (a c o h)
theorem Same.free {H H':Hp} (e:Same H H') {l:Addr} (h:H' l=Option.none):H l=Option.none:=by
 cases q:H l with
 | none=>rfl
 | some o =>
   rw [e l o q] at h;cases h
theorem Same.seq {K:PySem.W.Frag} {H H':Hp} {a:Addr} {xs:List V} (e:Same H H') (h:SqL K H a xs):SqL K H' a xs:=by
 rcases h with (h|⟨o,h⟩)|h
 . exact .inl (.inl (e _ _ h))
 . exact .inl (.inr ⟨o,e _ _ h⟩)
 . exact .inr h
end L2
namespace L2
open PySem PySem.Spec PyProof.Rows
section
variable {X:Cx}
theorem AY:dk X (.builtin "len") (fun xs H Q=>∃ a kvs,xs=[V.ref a]/\H a=some (.dK kvs)/\Q (.int kvs.length) H):=by
 intro pins s σ H xs us Q I r h;obtain ⟨a,kvs,rfl,ha,q⟩:=h;obtain ⟨u,rfl,ru⟩:=fo r;cases ru;exact Fo I (.inl ha) fun t s' I'=>⟨.int kvs.length,H,I',⟨t,rfl⟩,q⟩
end
section
variable {κ:Type} [DecidableEq κ]
end
end L2
set_option Elab.async false
set_option linter.all false
set_option maxRecDepth 100000
namespace L2
open PySem PySem.Spec PyProof.Rows
def Cx.comp (X:Cx) (Nc:List Str) (scope:Scope) (cl:List (Str × Addr)) (C:Addr) (s₂:Shared) (H₁:Hp) (fp:List Addr):Cx where
 prog:=X.prog
 w:=X.w
 K:=X.K
 mg:=X.mg
 base:=X.base
 A:=X.A
 N:=Nc
 s₀:=s₂
 H₀:=H₁
 env:=compEnvC scope cl C X.env
 outer:=X.stack
 stack:=X.stack
 ex:=fp
 fn:=fun _=>false
 calm:=X.calm
 pn:=[]
 xe:=fun _ _=>False
structure CompTxt (X:Cx) (Nc:List Str) (own:Nat) (js:List Nat) (scope:Scope) (cl:List (Str × Addr)):Prop where
 clos:closureFor scope X.env=pure cl
 kind:scope.kind=.function
 nocell:∀ y∈scope.names,y.2≠.cell
 names:∀ y∈scope.names,y.2=.local->scope.names.lookup y.1=some .local
 cells:∀ x c,cl.lookup x=some c->X.env.cells.lookup x=some c
 has:∀ x,((relabel scope X.env).names.lookup x=some .cell\/(relabel scope X.env).names.lookup x=some .free)->∃ c,cl.lookup x=some c
 len:Nc.length=own+js.length
 outer:∀ i x,Nc[own+i]?=some x->∃ j,js[i]?=some j/\X.N[j]?=some x/\X.env.scope.names.lookup x=some .cell/\(relabel scope X.env).names.lookup x=some .cell
def d8 (own:Nat) (js:List Nat) (σ:St):St:=List.replicate own none++js.map fun j=>(σ[j]?).getD none
def rz (own:Nat) (js:List Nat) (wi:TI) (g:TG) (tc:TT) (te:TE):TE:=fun σ H Q=>wi σ H fun J H1=>∀ p,H1 p=none ->
 ∃ W:Nat->Nat->List V->St->Hp->Prop,(∃ m,W 0 m [] (d8 own js σ) (upd H1 p (.lst [])))/\∀ i m ys σc Hc,W i m ys σc Hc ->
   (J.stop i Hc/\Q (.ref p) Hc)\/(J.go i Hc/\∀ x H',J.yld i Hc x H'->g x σc H' fun σ2 H2=>tc σ2 H2 fun b H3 =>
     if b=true then te σ2 H3 fun y H4=>H4 p=some (.lst ys)/\ys.length<sizeLine/\∃ m',m'<m/\W (i+1) m' (ys++[y]) σ2 (upd H4 p (.lst (ys++[y])))
     else ∃ m',m'<m/\W (i+1) m' ys σ2 H3)
def PTs (X:Cx) (ifs:List Expr) (t:TT):Prop :=
 ∀ (pins:List (Addr × Obj)) (s:Shared) (σ:St) (H:Hp) (Q:Bool->Hp->Prop),Inv X pins σ H s->t σ H Q ->
   wpAny (model X.prog X.w) X.A (forIn ifs true fun c r=>if r=true then do let ok <- isTrue c X.env (eval c X.env);pure (ForInStep.yield ok) else pure (ForInStep.yield r)) (TP X pins σ Q) X.xe s
def tYes:TT:=fun _ H Q=>Q true H
theorem hV {X:Cx}:PTs X [] tYes:=fun pins s σ H Q I h=>wpAny_tests_nil ⟨H,I,h⟩
section
variable {prog:Program} {w:World} {A:Around} {E:Value->Shared->Prop} {R:Result->Shared->Prop} {s:Shared}
theorem p8 {elt target iter:Expr} {ifs:List Expr} {scope:Scope} {pos:Pos} {it acc:Value} {env:Env} (I:Nat->Shared->Prop)
   (turn:∀ n s,I n s->wpAny (model prog w) A (pyNext it) (fun r s₁=>match r with
     | none=>R (.ok .next) s₁
     | some v=>wpAny (model prog w) A (letOwnedTupleGo target it v) (fun _ s₁'=>wpAny (model prog w) A (assign target env v) (fun _ s₂ =>
         wpAny (model prog w) A (forIn ifs true fun c r=>if r=true then do let ok <- isTrue c env (eval c env);pure (ForInStep.yield ok) else pure (ForInStep.yield r)) (fun ok s₃ =>
           if ok=true then wpAny (model prog w) A (eval elt env) (fun x s₄ =>
             wpAny (model prog w) A (call (.builtin "list.append") [acc,x]) (fun _ s₅=>∃ m,m<n/\I m s₅) (fun _ _=>False) s₄) (fun _ _=>False) s₃
           else ∃ m,m<n/\I m s₃) (fun _ _=>False) s₂) (fun _ _=>False) s₁') (fun _ _=>False) s₁) (fun _ _=>False) s)
   (n:Nat) (h:I n s) :
   codeAny (model prog w) A (.compLoop (.ListComp elt [⟨target,iter,ifs,0⟩] scope pos) 0 it acc env) R s:=by
 refine codeAny_loop rfl I (fun n s hI=>?_) n h;show wpAny _ A ((compTurn (.ListComp elt [⟨target,iter,ifs,0⟩] scope pos) 0 it acc env).onRaise (fun x=>do noteFrame x env;theTreesLotGoes x)) _ _ s;refine wpAny_noted ?_;rw [compTurn_list];refine wpAny_bind (wpAny_standAt (wpAny_bind (wpAny_mono (turn n s hI) (fun r s₁ h₁=>?_) fun _ _ h'=>h'.elim)));cases r with
 | none=>exact wpAny_pure h₁
 | some v =>
   refine wpAny_bind (wpAny_mono h₁ (fun _ s₁' h₁'=>?_) fun _ _ h'=>h'.elim);refine wpAny_bind (wpAny_mono h₁' (fun _ s₂ h₂=>wpAny_bind (wpAny_mono h₂ (fun ok s₃ h₃=>?_) fun _ _ h'=>h'.elim)) fun _ _ h'=>h'.elim);cases ok with
   | true =>
     rw [if_pos rfl] at h₃;simp only [if_true];exact wpAny_bind (wpAny_bind (wpAny_mono h₃ (fun x s₄ h₄=>wpAny_bind (wpAny_mono h₄ (fun _ s₅ h₅=>wpAny_pure (wpAny_pure ⟨rfl,h₅⟩)) fun _ _ h'=>h'.elim)) fun _ _ h'=>h'.elim))
   | false =>
     rw [if_neg Bool.false_ne_true] at h₃;simp only [Bool.false_eq_true,if_false]
     first
       | exact wpAny_pure ⟨rfl,h₃⟩
       | exact wpAny_bind (wpAny_pure (wpAny_pure ⟨rfl,h₃⟩))
end
end L2
set_option Elab.async false
set_option linter.all false
set_option maxRecDepth 100000
namespace L2
open PySem PySem.Spec PyProof.Rows
section
variable {X:Cx} {Nc:List Str} {own:Nat} {js:List Nat} {scope:Scope} {cl:List (Str × Addr)}
theorem lQ {pins:List (Addr × Obj)} {σ:St} {H₁:Hp} {s₂:Shared} {C:Addr} {fp:List Addr} (T:CompTxt X Nc own js scope cl) (I:Inv X pins σ H₁ s₂) (hC:s₂.heap.objs.size<=C)
   (f1:∀ b∈fp,gK X pins H₁ b) (hlt:∀ b∈fp,b<s₂.heap.objs.size):(X.comp Nc scope cl C s₂ H₁ fp).Ok where
 mod:=I.ok.mod
 kind:=by show (relabel scope X.env).kind=_;exact T.kind
 glob:=I.ok.glob
 blt:=I.ok.blt
 above:=hC
 inj:=fun x y c h1 h2=>I.ok.inj x y c (T.cells x c h1) (T.cells y c h2)
 has:=fun x h=>T.has x h
 cab:=fun x c h=>by cases h
 hd:=I.ok.hd
 frames:=I.ok.frames
 stk:=.inl rfl
 exf:=fun b hb=>⟨Nat.ne_of_lt (Nat.lt_of_lt_of_le (hlt b hb) hC),fun x c h=>(f1 b hb).2.2.2.2.1 x c (T.cells x c h)⟩
 bs:=I.bs
 bsz:=Nat.le_trans I.ok.bsz I.sz
 noex:=fun b o e hb=>by
   rcases (f1 b hb).2.2.2.1 with z|z
   . exact I.ok.noex b o e z
   . exact absurd (Nat.lt_of_lt_of_le (Heap.lt_size (I.ok.bs b o e).1) z) (Nat.lt_irrefl _)
 exfs:=fun b hb hs=>by
   rcases List.mem_cons.mp (I.stkSub b hs) with z|z
   . exact (f1 b hb).2.1 z
   . exact (f1 b hb).2.2.1 z
 funs:=I.stack
 frf:=I.stkFree
theorem nA {pins:List (Addr × Obj)} {σ:St} {H₁:Hp} {s₂:Shared} {C D:Addr} {fp:List Addr} {h₁:Heap} {t:Nat} {m:Str->Option Value} (T:CompTxt X Nc own js scope cl) (I:Inv X pins σ H₁ s₂) (hC:s₂.heap.objs.size<=C)
   (hD:s₂.heap.objs.size<=D) (hDC:D≠C) (f1:∀ b∈fp,gK X pins H₁ b) (hlt:∀ b∈fp,b<s₂.heap.objs.size) (old:∀ b o,s₂.heap.get? b=some o->h₁.get? b=some o) (hns:h₁.Ns C m)
   (hacc:∃ n,h₁.get? D=some { cls:=.type "list",data:=.seq ([]:List Value).toArray n }) :
   Inv (X.comp Nc scope cl C s₂ H₁ fp) [] (d8 own js σ) (upd H₁ D (.lst [])) { s₂ with heap:=h₁,toks:=t }:=by
 obtain ⟨na,hacc⟩:=hacc;have cellK:∀ c v,s₂.heap.IsCell c v->h₁.IsCell c v:=fun c v ⟨o,ho,hd⟩=>⟨o,old c o ho,hd⟩;refine ⟨lQ T I hC f1 hlt,rfl,I.bare,Un.laid old hD (I.hok.fresh hD),⟨m,hns,fun i x v e1 e2 e3=>?_⟩,fun x c e=>?_,?_,fun x c e=>?_,fun p hp=>(by cases hp),I.hok.laid old hD ?_,?_⟩
 . have hN:Nc[i]?=some x:=e1;have hσ:(d8 own js σ)[i]?=some (some v):=e2;unfold d8 at hσ;by_cases hi:i<own
   . rw [List.getElem?_append_left (by simpa using hi),List.getElem?_replicate] at hσ;simp [hi] at hσ
   . obtain ⟨k,rfl⟩:∃ k,i=own+k:=⟨i - own,by omega⟩;rw [List.getElem?_append_right (by simp)] at hσ;simp only [List.length_replicate,Nat.add_sub_cancel_left,List.getElem?_map] at hσ;obtain ⟨j,hj,hx,hk,hr⟩:=T.outer k x hN;rw [hj] at hσ;replace hσ:some (σ[j]?.getD none)=some (some v):=hσ;have hσj:σ[j]?=some (some v):=by
       cases q:σ[j]? with
       | none=>rw [q] at hσ;simp at hσ
       | some y=>rw [q] at hσ;simpa using hσ
     obtain ⟨m0,hn0,hl0⟩:=I.loc;obtain ⟨u,ru,lk⟩:=hl0 j x v hx hσj (.inr (.inl hk));refine ⟨u,ru,.inr ⟨.inl hr,?_⟩⟩;rcases lk with ⟨z,_⟩|⟨_,c,hc,hcell⟩
     . have z':X.env.scope.names.lookup x=some .local:=z;rw [hk] at z';cases z'
     . obtain ⟨c',hc'⟩:=T.has x (.inl hr);have:=T.cells x c' hc';rw [hc] at this;cases this;exact ⟨c,hc',cellK c _ hcell⟩
 . obtain ⟨v,z⟩:=I.cell x c (T.cells x c e);exact ⟨v,cellK c v z⟩
 . show upd H₁ D (.lst []) C=none;rw [am (Ne.symm hDC)];exact I.hok.fresh hC
 . have e':=T.cells x c e;obtain ⟨v,o,ho,_⟩:=I.cell x c e';rw [am (Nat.ne_of_lt (Nat.lt_of_lt_of_le (Heap.lt_size ho) hD))];exact I.freeC x c e'
 . exact ⟨Nat.zero_le _,[],na,.nil,hacc⟩
 . show (d8 own js σ).length=Nc.length;rw [T.len];simp [d8]
theorem iZ {pins:List (Addr × Obj)} {σ σc:St} {H₁ H':Hp} {s₂ s':Shared} {C:Addr} {fp:List Addr} {h':Heap} (I:Inv X pins σ H₁ s₂) (hC:s₂.heap.objs.size<=C)
   (f1:∀ b∈fp,gK X pins H₁ b) (I':Inv (X.comp Nc scope cl C s₂ H₁ fp) [] σc H' s') (hs:Heap.SameBut C s'.heap h'):Inv X pins σ H' { s' with heap:=h' }:=by
 have u:Un (frs X.stack) fp H₁ H' s₂.heap s'.heap:=I'.base;have ne:∀ b o,s₂.heap.get? b=some o->b≠C:=fun b o e=>Nat.ne_of_lt (Nat.lt_of_lt_of_le (Heap.lt_size e) hC);have k:∀ b o,b≠C->s'.heap.get? b=some o->h'.get? b=some o:=fun b o n e=>hs.extBut b o n e;have u':Un (frs X.stack) fp H₁ H' s₂.heap h':=⟨fun b o e n hb hx=>k b o (ne b o e) (u.keep b o e n hb hx),fun b o e n hb hx=>let ⟨sl,q⟩:=u.slot b o e n hb hx;⟨sl,k b _ (ne b o e) q⟩,
   u.free,fun b o e hx=>let ⟨o',q⟩:=u.there b o e hx;⟨o',k b o' (ne b o e) q⟩,u.tups,u.frzs,u.tbls⟩
 have hfree:H' C=none:=I'.free;have hok':HOk X.prog X.w H' h':=fun a o e=>(I'.hok a o e).stay (fun b v hb q=>k b v (fun z=>by
   rcases hb with y|y
   . rw [y] at z;rw [z,hfree] at e;cases e
   . rw [z,hfree] at y;cases y) q) (fun _ q=>q) fun _ _ q=>q
 exact I.call' (s':={ s' with heap:=h' }) (ch:=fp) I'.os u' hok' I'.bare fun b hb=>⟨(f1 b hb).2.2.2.1,(f1 b hb).2.1,(f1 b hb).2.2.2.2.1,(f1 b hb).2.2.2.2.2⟩
theorem xN {elt target iter:Expr} {ifs:List Expr} {pos:Pos} {wi:TI} {g:TG} {tc:TT} {te:TE} (hc:X.calm=true) (T:CompTxt X Nc own js scope cl)
   (hi:PI X target iter wi) (hg:∀ C s₂ H₁ fp,PG (X.comp Nc scope cl C s₂ H₁ fp) target g) (ht:∀ C s₂ H₁ fp,PTs (X.comp Nc scope cl C s₂ H₁ fp) ifs tc)
   (he:∀ C s₂ H₁ fp,PE (X.comp Nc scope cl C s₂ H₁ fp) elt te) (hs:∀ x,foldedSetIterable iter X.env x=pure x:=by intro _;rfl) :
   PE X (.ListComp elt [⟨target,iter,ifs,0⟩] scope pos) (rz own js wi g tc te):=by
 intro pins s σ H Q I h;rw [eval_ListComp];refine wpAny_comprehension_free (use:=none) rfl hs T.clos T.kind T.names (thn (hi pins s σ H _ I h) fun v s1 h1=>thn h1 fun itv s2 h2=>?_);obtain ⟨it,fp,tn,J,H1,rfl,I1,Tn,st,f1,R⟩:=h2;have hfp:∀ b∈fp,b<s2.heap.objs.size:=fun b hb=>let ⟨o,e,_⟩:=Tn.obj _ _ st b hb;Heap.lt_size e;refine wpAny_newObj_type (wpAny_newFunctionEnv T.nocell (by intro y hy;simp at hy) (fun h₁ hns₁ hsb₁=>?_) T.kind);dsimp only at hns₁ hsb₁ ⊢;generalize hH2:s2.heap.push { cls:=.type "list",dict:=none,data:=.seq ([]:List Value).toArray }=H2 at hns₁ hsb₁ ⊢;have hC:H2.objs.size=s2.heap.objs.size+1:=by rw [<- hH2,Heap.size_push]
 have hDC:s2.heap.objs.size≠H2.objs.size:=by rw [hC];exact Nat.ne_of_lt (Nat.lt_succ_self _)
 have hCle:s2.heap.objs.size<=H2.objs.size:=by rw [hC];exact Nat.le_succ _
 have below:∀ b,b<s2.heap.objs.size->b≠H2.objs.size:=fun b hb=>by rw [hC];exact Nat.ne_of_lt (Nat.lt_succ_of_lt hb)
 have old:∀ b o,s2.heap.get? b=some o->h₁.get? b=some o:=fun b o e=>hsb₁.extBut b o (below b (Heap.lt_size e)) (Heap.get?_push_of_some _ (hH2 ▸ Heap.get?_push_of_some _ e));have hacc:∃ n,h₁.get? s2.heap.objs.size=some { cls:=.type "list",data:=.seq ([]:List Value).toArray n }:=⟨_,hsb₁.extBut _ _ hDC (Heap.get?_push_of_some _ (hH2 ▸ Heap.get?_push_size _ rfl))⟩;have st₁:tn 0 h₁:=Tn.keep _ _ _ st fun b _ o e=>old b o e;obtain ⟨W,⟨m0,w0⟩,turn⟩:=R s2.heap.objs.size I1.fresh;have Ic:=nA (t:=s2.toks+([]:List (Str × Value)).length) T I1 hCle (Nat.le_refl _) hDC f1 hfp old hns₁ hacc;generalize hXc:X.comp Nc scope cl H2.objs.size s2 H1 fp=Xc at Ic;have stat:∀ {H':Hp},(∀ b∈fp,H' b=none)->∀ b∈fp,gK Xc [] H' b:=fun {H'} hn b hb=>by
   subst hXc;exact ⟨hn b hb,below b (hfp b hb),(lQ T I1 hCle f1 hfp).exfs b hb,.inl hb,fun x c e=>(f1 b hb).2.2.2.2.1 x c (T.cells x c e),fun p hp=>by cases hp⟩
 have fr0:∀ b∈fp,upd H1 s2.heap.objs.size (.lst []) b=none:=fun b hb=>by
   rw [am (Nat.ne_of_lt (hfp b hb))];exact (f1 b hb).1
 have calmc:Xc.calm=true:=by subst hXc;exact hc
 have loop:∀ s₃:Shared,s₃={ s2 with heap:=h₁,toks:=s2.toks+([]:List (Str × Value)).length } ->
     codeAny (model X.prog X.w) X.A (.compLoop (.ListComp elt [⟨target,iter,ifs,0⟩] scope pos) 0 (.ref it) (.ref s2.heap.objs.size) (compEnvC scope cl H2.objs.size X.env))
       (compPost (model X.prog X.w) X.A X.xe none (EP X pins σ Q) (.ref s2.heap.objs.size) H2.objs.size) s₃:=by
   rintro s₃ rfl;refine p8 (fun n s'=>∃ i ys σ' H',Inv Xc [] σ' H' s'/\tn i s'.heap/\(∀ b∈fp,H' b=none)/\W i n ys σ' H') ?_ m0 ⟨0,[],_,_,Ic,st₁,fr0,w0⟩;rintro n s3 ⟨i,ys,σ3,H3,I3,st3,fr3,w3⟩;rcases turn i n ys σ3 H3 w3 with ⟨stop,q⟩|⟨go,step⟩
   . subst hXc;refine thn (Tn.done (X.comp Nc scope cl H2.objs.size s2 H1 fp) rfl rfl rfl hc i [] s3 σ3 H3 _ I3 (stat fr3) st3 stop) fun r s4 ⟨hr,I4⟩=>?_;subst hr;obtain ⟨m4,hn4,_⟩:=id I4.loc;exact ⟨m4,hn4,fun h' hs'=>⟨.ref s2.heap.objs.size,H3,iZ I1 hCle f1 I4 hs',rfl,q⟩⟩
   . subst hXc;refine thn (Tn.item (X.comp Nc scope cl H2.objs.size s2 H1 fp) rfl rfl rfl hc i [] s3 σ3 H3 _ I3 (stat fr3) st3 go) fun r s4 ⟨u,hr,h4⟩=>?_;subst hr;refine thn h4 fun _ s5 ⟨x,H5,I5,r5,y5,st5,fr5⟩=>?_;have I5':=I5.pinned (stat fr5) (Tn.obj _ _ st5);have back:∀ {σ7:St} {H7:Hp} {s7:Shared},Inv (X.comp Nc scope cl H2.objs.size s2 H1 fp) ([]++dW fp s5.heap) σ7 H7 s7->Inv (X.comp Nc scope cl H2.objs.size s2 H1 fp) [] σ7 H7 s7/\tn (i+1) s7.heap/\∀ b∈fp,H7 b=none:=fun {σ7 H7 s7} I7=>by
       refine ⟨I7.unpinned,Tn.keep _ _ _ st5 fun b hb o e=>(I7.pin (b,o) (List.mem_append_right _ (List.mem_append_right _ (b9 hb e)))).1,fun b hb=>?_⟩;obtain ⟨o,e,d⟩:=Tn.obj _ _ st5 b hb;exact (I7.pin (b,o) (List.mem_append_right _ (List.mem_append_right _ (b9 hb e)))).2.1
     refine thn (hg _ _ _ _ _ s5 σ3 H5 x u _ I5' r5 (step x H5 y5)) fun _ s6 ⟨σ6,H6,I6,q6⟩=>?_;refine oG (ht _ _ _ _ _ s6 σ6 H6 _ I6 q6) fun ok s7 H7 I7 q7=>?_;cases ok with
     | false =>
       rw [if_neg Bool.false_ne_true] at q7 ⊢;obtain ⟨m',hm,w7⟩:=q7;obtain ⟨J1,J2,J3⟩:=back I7;exact ⟨m',hm,i+1,ys,σ6,H7,J1,J2,J3,w7⟩
     | true =>
       rw [if_pos rfl] at q7 ⊢;refine bc (he _ _ _ _ _ s7 σ6 H7 _ I7 q7) fun y s8 yv H8 I8 r8 ⟨hp8,hl8,m',hm,w8⟩=>?_;refine thn (c7 _ s8 σ6 H8 (.ref s2.heap.objs.size) [yv] _ [y] (fun v' H'=>W (i+1) m' (ys++[yv]) σ6 H') I8 rfl (.cons r8 .nil) ⟨_,ys,yv,rfl,rfl,hp8,hl8,w8⟩) fun v9 s9 ⟨_,H9,I9,_,w9⟩=>?_;obtain ⟨J1,J2,J3⟩:=back I9;exact ⟨m',hm,i+1,ys++[yv],σ6,H9,J1,J2,J3,w9⟩
 exact codeAny_compStart_list (loop _ rfl) (Tn.self _ 0 _ _ _ st₁ (loop _ rfl))
end
end L2
set_option Elab.async false
set_option linter.all false
set_option maxRecDepth 100000
namespace L2
open PySem PySem.Spec PyProof.Rows
section
variable {X:Cx}
def rInsert:V->List V->Hp->VK->Prop:=fun x vs H Q=>∃ (l:Addr) (xs:List V) (i:Int) (y:V),x=.ref l/\vs=[.int i,y]/\H l=some (.lst xs)/\0<=i/\i<=xs.length/\xs.length<sizeLine/\Q .non (upd H l (.lst (xs.take i.toNat++y::xs.drop i.toNat)))
theorem A3:MtM X "list.insert" rInsert:=by
 intro pins s σ H x vs v us Q I rx rv h;obtain ⟨l,xs,i,y,rfl,rfl,hH,h0,hk,hz,q⟩:=h;cases rx;obtain ⟨u1,u2,rfl,⟨t,rfl⟩,ru⟩:=rv.two;obtain ⟨z,its,n,r,hl,e⟩:=I.lstM hH;have hn:=iU;have hf:Builtin.List.listFitsIndex i=true:=by
   unfold Builtin.List.listFitsIndex;rw [Bool.and_eq_true];exact ⟨decide_eq_true (by omega),decide_eq_true (by omega)⟩
 have hf':¬ (!Builtin.List.listFitsIndex i)=true:=by rw [hf];decide
 have hzz:its.toArray.size<=sizeLine:=by rw [List.size_toArray,<- hl];exact z
 refine call_meets PySem.F.slot_list_insert ⟨_,e,rfl⟩ PySem.F.entry_list_insert (PySem.F.args_list_insert_3 _ _ _) (PySem.AutoSeq1.list_insert_list_int_val_1 l its.toArray n i t u2 hf' hzz) ⟨e,?_⟩;refine ⟨.non,_,I.lset (its':=its.take i.toNat++u2::its.drop i.toNat) hH e ?_ ((r.take i.toNat).append (.cons ru (r.drop i.toNat))) ?_,rfl,q⟩
 . show (its.toArray.extract 0 (if i<0 then (i+(its.toArray.size:Int)).toNat else min i.toNat its.toArray.size)).push u2++its.toArray.extract (if i<0 then (i+(its.toArray.size:Int)).toNat else min i.toNat its.toArray.size)=_;have e0:(if i<0 then (i+(its.toArray.size:Int)).toNat else min i.toNat its.toArray.size)=i.toNat:=by
     rw [if_neg (by omega),List.size_toArray];omega
   rw [e0];exact PySem.W.kl_ins_eq its i.toNat u2
 . rw [List.length_append,List.length_cons,List.length_take,List.length_drop];omega
theorem Bx (hc:X.calm=true):dk X (.builtin "all") (fun xs H Q=>∃ (p:Addr) (bs:List Bool),xs=[.ref p]/\SqL X.K H p (bs.map V.bl)/\Q (.bl (bs.all id)) H):=by
 intro pins s σ H xs us Q I r h;obtain ⟨p,bs,rfl,hp,q⟩:=h;obtain ⟨u,rfl,ru⟩:=fo r;cases ru;obtain ⟨its,rv,pl,hz⟩:=I.list hp;have hl:=pl.isList;have hlt:=pl.lt;have hh:X.A.in1.handled=none:=I.ok.hd hc;have hlen:its.length=bs.length:=by rw [<- rv.length,List.length_map]
 refine call_all_walk (wpAny_pyIter_list hl ?_);refine ⟨s.heap.objs.size,[s.heap.objs.size,p],[s.heap.objs.size],its.toArray.size,_,_,fun i=>(bs[i]?).getD true,rfl,Walks.list (A:=X.A.in1) hh _ p (Nat.ne_of_lt hlt) its.toArray,
   ⟨⟨_,Heap.get?_push_size _ rfl,rfl,rfl⟩,hl.push _⟩,fun i v s' Q' E' hP hQ=>?_,fun h' tk hk=>?_⟩
 . have hi:its[i]?=some v:=by simpa using hP
   have hib:i<bs.length:=by rw [<- hlen];exact (List.getElem?_eq_some_iff.mp hi).1
   obtain ⟨u,hu,ru⟩:=rv.get (i:=i) (x:=V.bl bs[i]) (by rw [List.getElem?_map,List.getElem?_eq_getElem hib];rfl);rw [hi] at hu;cases hu;cases ru;replace hQ:Q' (bs[i]?.getD true) s':=hQ;rw [List.getElem?_eq_getElem hib] at hQ;exact wpAny_truthy_bool hQ
 . have e:((List.range its.toArray.size).all fun i=>(bs[i]?).getD true)=bs.all id:=by
     rw [List.size_toArray,hlen];rw [Bool.eq_iff_iff,List.all_eq_true,List.all_eq_true]
     constructor
     . intro z b hb;obtain ⟨i,hi,rfl⟩:=List.getElem_of_mem hb;have:=z i (List.mem_range.mpr hi);rw [List.getElem?_eq_getElem hi] at this;exact this
     . intro z i hi;have hi':=List.mem_range.mp hi;rw [List.getElem?_eq_getElem hi'];exact z _ (List.getElem_mem hi')
   have kk:∀ b o,s.heap.get? b=some o->h'.get? b=some o:=fun b o eb=>hk b o (fun hm=>by rw [List.mem_singleton.mp hm] at eb;exact Nat.lt_irrefl _ (Heap.lt_size eb)) (Heap.get?_push_of_some _ eb);rw [e];exact ⟨.bl _,H,I.kept (t':=tk) kk,rfl,q⟩
end
mutual
inductive Deep (K:PySem.W.Frag) (H:Hp):V->PyData->Prop
 | non:Deep K H .non .none
 | bl (b:Bool):Deep K H (.bl b) (.bool b)
 | int (i:Int):Deep K H (.int i) (.int i)
 | str {x:Str}:PyData.canLay0 (.str x)=true->Deep K H (.str x) (.str x)
 | lst {a:Addr} {xs:List V} {ds:List PyData}:SqL K H a xs->DeepAll K H xs ds->Deep K H (.ref a) (.list ds)
 | tup {a:Addr} {xs:List V} {ds:List PyData}:SqT K H a xs->DeepAll K H xs ds->Deep K H (.ref a) (.tuple ds)
inductive DeepAll (K:PySem.W.Frag) (H:Hp):List V->List PyData->Prop
 | nil:DeepAll K H [] []
 | cons {x:V} {d:PyData} {xs:List V} {ds:List PyData}:Deep K H x d->DeepAll K H xs ds->DeepAll K H (x::xs) (d::ds)
end
mutual
theorem Deep.reads {X:Cx} {pins:List (Addr × Obj)} {σ:St} {H:Hp} {s:Shared} (I:Inv X pins σ H s):∀ {x:V} {d:PyData} {u:Value},Deep X.K H x d->RelV x u->(∃ as,Reads s.heap u d as)/\d.canLay0=true
 | _,_,_,.non,r=>by cases (show _=Value.none from r);exact ⟨⟨_,.none⟩,by simp [PyData.canLay0]⟩
 | _,_,_,.bl b,r=>by cases (show _=Value.bool b from r);exact ⟨⟨_,.bool b⟩,by simp [PyData.canLay0]⟩
 | _,_,_,.int i,r=>by obtain ⟨t,e⟩:=(show ∃ t,_=Value.int i t from r);cases e;exact ⟨⟨_,.int i t⟩,by simp [PyData.canLay0]⟩
 | _,_,_,.str (x:=x) h,r=>by obtain ⟨t,e⟩:=(show ∃ t,_=Value.str x t from r);cases e;exact ⟨⟨_,.str x t⟩,h⟩
 | _,_,_,.lst (a:=a) h hs,r=>by
   cases (show _=Value.ref a from r);obtain ⟨its,rv,⟨o,n,e,c,_,dd⟩,hz⟩:=I.list h;obtain ⟨⟨as,ra⟩,cl⟩:=DeepAll.reads I hs rv;exact ⟨⟨_,.list e c dd (by simpa using ra)⟩,by simpa [PyData.canLay0] using cl⟩
 | _,_,_,.tup (a:=a) h hs,r=>by
   cases (show _=Value.ref a from r);obtain ⟨its,rv,⟨o,e,c,n,dd⟩,hz⟩:=I.tuple h;obtain ⟨⟨as,ra⟩,cl⟩:=DeepAll.reads I hs rv;exact ⟨⟨_,.tuple e c dd (by simpa using ra)⟩,by simpa [PyData.canLay0] using cl⟩
theorem DeepAll.reads {X:Cx} {pins:List (Addr × Obj)} {σ:St} {H:Hp} {s:Shared} (I:Inv X pins σ H s):∀ {xs:List V} {ds:List PyData} {us:List Value},DeepAll X.K H xs ds->Vals xs us->(∃ as,ReadsAll s.heap us ds as)/\PyData.canLayAll0 ds=true
 | _,_,_,.nil,.nil=>⟨⟨_,.nil⟩,by simp [PyData.canLayAll0]⟩
 | _,_,_,.cons h hs,.cons r rs=>by
   obtain ⟨⟨as,ra⟩,c1⟩:=Deep.reads I h r;obtain ⟨⟨bs,rb⟩,c2⟩:=DeepAll.reads I hs rs;exact ⟨⟨_,.cons ra rb⟩,by simp [PyData.canLayAll0,c1,c2]⟩
end
section
variable {X:Cx}
def yO (K:PySem.W.Frag):R2:=fun x y H Q=>∃ d e,Deep K H x d/\Deep K H y e/\d.depth<=40/\Q (.bl (PyData.eqv d e)) H
def EW (K:PySem.W.Frag):R2:=fun x y H Q=>∃ d e,Deep K H x d/\Deep K H y e/\d.depth<=40/\Q (.bl (!PyData.eqv d e)) H
theorem rO (hu:X.A.units+64<cLine):OpR X (compareOp .Eq) (yO X.K):=by
 intro pins s σ H x y v u Q I rx ry h;obtain ⟨d,e,hd,he,hp,q⟩:=h;obtain ⟨⟨as,ra⟩,ca⟩:=hd.reads I rx;obtain ⟨⟨bs,rb⟩,cb⟩:=he.reads I ry;exact PySem.SeqAt.compareEq_reads ra rb ca cb (by omega) ⟨.bl _,H,I,rfl,q⟩
theorem EC (hu:X.A.units+64<cLine):OpR X (compareOp .NotEq) (EW X.K):=by
 intro pins s σ H x y v u Q I rx ry h;obtain ⟨d,e,hd,he,hp,q⟩:=h;obtain ⟨⟨as,ra⟩,ca⟩:=hd.reads I rx;obtain ⟨⟨bs,rb⟩,cb⟩:=he.reads I ry;exact PySem.SeqAt.compareNe_reads ra rb ca cb (by omega) ⟨.bl _,H,I,rfl,q⟩
end
end L2
set_option Elab.async false
set_option linter.all false
set_option maxRecDepth 100000
namespace L2
open PySem PySem.Spec PyProof.Rows
section
variable {P:Program} {w:World} {A:Around} {E:Value->Shared->Prop} {s:Shared}
end
end L2
set_option Elab.async false
set_option linter.all false
set_option maxRecDepth 100000
namespace L2
open PySem PySem.Spec PyProof.Rows
section
variable {P:Program} {w:World} {A:Around} {E:Value->Shared->Prop} {s:Shared} {l1 l2:Addr} {ob1 ob2:Obj} {src1 src2:Heap->Array Value->Prop} {at1 at2:Addr->Nat->Heap->Prop}
end
def SqX (K:PySem.W.Frag):Bool->Hp->Addr->List V->Prop
 | true,H,a,xs=>SqL K H a xs
 | false,H,a,xs=>SqT K H a xs
def Itz (K:PySem.W.Frag) (c d:Bool) (a b:Addr):It :=
 ⟨fun i H=>∃ xs ys x y,SqX K c H a xs/\SqX K d H b ys/\xs[i]?=some x/\ys[i]?=some y,
  fun i H v H'=>∃ p x y,H p=none/\v=.ref p/\H'=upd H p (.tup [x,y])/\(∀ xs,SqX K c H a xs->xs[i]?=some x)/\∀ ys,SqX K d H b ys->ys[i]?=some y,
  fun i H=>∃ xs ys,SqX K c H a xs/\SqX K d H b ys/\(xs.length<=i\/ys.length<=i)⟩
end L2
set_option Elab.async false
set_option linter.all false
set_option maxRecDepth 100000
namespace L2
open PySem PySem.Spec PyProof.Rows
section
variable {X:Cx} {pins:List (Addr × Obj)} {σ:St} {H H2:Hp} {s s2:Shared} {a:Addr} {o:HO}
end
section
variable {P:Program} {w:World} {A:Around} {E:Value->Shared->Prop} {s:Shared}
end
end L2
set_option Elab.async false
set_option linter.all false
set_option maxRecDepth 100000
namespace L2
open PySem PySem.Spec PyProof.Rows
section
variable {P:Program} {w:World} {A:Around} {E:Value->Shared->Prop} {s:Shared} {R:Result->Shared->Prop}
end
section
variable {X:Cx} {e:Expr} {te:TE} {p1 p2 pos pos2:Pos}
end
end L2
set_option Elab.async false
set_option linter.all false
set_option maxRecDepth 100000
namespace L2
open PySem PySem.Spec PyProof.Rows
section
variable {X:Cx}
def EX (K:PySem.W.Frag) (c d:Bool) (ta:TA):TI:=fun σ H R=>ta σ H fun vs H1=>∃ a b,vs=[.ref a,.ref b]/\(∃ xs,SqX K c H1 a xs)/\(∃ ys,SqX K d H1 b ys)/\R (Itz K c d a b) H1
end
end L2
set_option linter.all false
namespace Pb
structure Road where
 a:Int
 b:Int
 t:Int
 u:Int
 deriving DecidableEq
def Ao (m:Int) (rs:List Road):Prop:=∀ S:Int->Prop,S 0->(∀ r∈rs,(S r.a↔S r.b))->∀ v,0<=v->v<m->S v
structure RoadOk (m:Int) (r:Road):Prop where
 a0:0<=r.a
 a1:r.a<m
 b0:0<=r.b
 b1:r.b<m
 ne:r.a≠r.b
 t0:2<=r.t
 t1:r.t<=1000000
 u0:2<=r.u
 u1:r.u<=1000000
structure Good (m:Int) (rs:List Road):Prop where
 m1:1<=m
 m24:m<=24
 len:(rs.length:Int)=m - 1
 ok:∀ r∈rs,RoadOk m r
 jn:Ao m rs
theorem qL {α:Type} [DecidableEq α]:∀ {l l':List α},l.Nodup->(∀ x∈l,x∈l')->l.length<=l'.length
 | [],_,_,_=>Nat.zero_le _
 | x::r,l',hn,hs=>by
   obtain ⟨h1,h2⟩:=List.nodup_cons.mp hn;have hx:x∈l':=hs x List.mem_cons_self;have:r.length<=(l'.erase x).length:=qL h2 fun y hy=>(List.mem_erase_of_ne (fun (e:y=x)=>h1 (by rw [<- e];exact hy))).mpr (hs y (List.mem_cons_of_mem _ hy));rw [List.length_erase_of_mem hx] at this;have hp:0<l'.length:=List.length_pos_of_mem hx;rw [List.length_cons];omega
def below (n:Nat):List Int:=(List.range n).map fun (k:Nat)=>(k:Int)
theorem ue {n:Nat} {v:Int}:v∈below n↔0<=v/\v<n:=by
 unfold below;rw [List.mem_map]
 constructor
 . rintro ⟨k,hk,rfl⟩;have:=List.mem_range.mp hk;omega
 . rintro ⟨h0,h1⟩;exact ⟨v.toNat,List.mem_range.mpr (by omega),by omega⟩
theorem oZ (n:Nat):(below n).length=n:=by simp [below]
theorem xl (n:Nat):(below n).Nodup:=by
 unfold below;refine List.Pairwise.map _ (fun a b h=>?_) (List.nodup_range (n:=n));intro e;exact h (by omega)
theorem kJ {m:Int} {l:List Int} (hm:0<=m) (hn:l.Nodup) (h:∀ x∈l,0<=x/\x<m):(l.length:Int)<=m:=by
 have:=qL (l':=below m.toNat) hn fun x hx=>ue.mpr ⟨(h x hx).1,by have:=(h x hx).2;omega⟩;rw [oZ] at this;omega
theorem Bi {m:Int} {l:List Int} (hm:0<=m) (h:∀ v,0<=v->v<m->v∈l):m<=(l.length:Int):=by
 have:=qL (l:=below m.toNat) (l':=l) (xl _) fun x hx=>by
   obtain ⟨h0,h1⟩:=ue.mp hx;exact h x h0 (by omega)
 rw [oZ] at this;omega
def pD (p:Int) (r:Road):List Int:=(if r.a=p then [r.b] else [])++(if r.b=p then [r.a] else [])
def cR (rs:List Road) (p:Int):List Int:=rs.flatMap (pD p)
theorem qd {rs:List Road} {p e:Int}:e∈cR rs p↔∃ r∈rs,(r.a=p/\r.b=e)\/(r.b=p/\r.a=e):=by
 unfold cR pD;rw [List.mem_flatMap]
 constructor
 . rintro ⟨r,hr,h⟩;refine ⟨r,hr,?_⟩;rcases List.mem_append.mp h with h|h
   . by_cases c:r.a=p
     . rw [if_pos c] at h;exact .inl ⟨c,(List.mem_singleton.mp h).symm⟩
     . rw [if_neg c] at h;cases h
   . by_cases c:r.b=p
     . rw [if_pos c] at h;exact .inr ⟨c,(List.mem_singleton.mp h).symm⟩
     . rw [if_neg c] at h;cases h
 . rintro ⟨r,hr,h⟩;refine ⟨r,hr,List.mem_append.mpr ?_⟩;rcases h with ⟨h1,h2⟩|⟨h1,h2⟩
   . exact .inl (by rw [if_pos h1,h2];exact List.mem_singleton.mpr rfl)
   . exact .inr (by rw [if_pos h1,h2];exact List.mem_singleton.mpr rfl)
theorem Bz (rs:List Road) (p:Int):(cR rs p).length<=2*rs.length:=by
 unfold cR
 induction rs with
 | nil=>simp
 | cons r rs ih =>
   rw [List.flatMap_cons,List.length_append,List.length_cons];have:(pD p r).length<=2:=by
     unfold pD;rw [List.length_append];by_cases c:r.a=p <;> by_cases d:r.b=p <;> simp [c,d]
   omega
theorem kL (rs:List Road) (r:Road) (p:Int):cR (rs++[r]) p=cR rs p++pD p r:=by
 unfold cR;rw [List.flatMap_append];simp
def rS (c:List Int × List Int) (e:Int):List Int × List Int:=if e∈c.1 then c else (c.1++[e],c.2++[e])
structure JInv (m:Int) (rs:List Road) (ks ws:List Int):Prop where
 nd:ks.Nodup
 zero:0∈ks
 rng:∀ k∈ks,0<=k/\k<m
 sub:∀ w∈ws,w∈ks
 cl:∀ k∈ks,k ∉ ws->∀ e∈cR rs k,e∈ks
 wl:ws.length<=ks.length
theorem yI {l:List Int} {e:Int} (h:l.Nodup) (he:e ∉ l):(l++[e]).Nodup:=by
 rw [List.nodup_append];refine ⟨h,by simp,fun a ha b hb=>?_⟩;rw [List.mem_singleton.mp hb];exact fun z=>he (z ▸ ha)
structure JMid (m:Int) (rs:List Road) (p:Int) (es ks ws ks0:List Int) (n0:Nat):Prop where
 nd:ks.Nodup
 zero:0∈ks
 rng:∀ k∈ks,0<=k/\k<m
 sub:∀ w∈ws,w∈ks
 cl:∀ k∈ks,k ∉ ws->k=p\/∀ e∈cR rs k,e∈ks
 seen:∀ e∈es,e∈ks
 pin:p∈ks
 mu:ks.length+n0=ks0.length+ws.length
 up:ks0.length<=ks.length
 wl:ws.length<=ks.length
theorem JMid.start {m:Int} {rs:List Road} {ks ws:List Int} {p:Int} (h:JInv m rs ks (ws++[p])):JMid m rs p [] ks ws ks ws.length where
 nd:=h.nd
 zero:=h.zero
 rng:=h.rng
 sub:=fun w hw=>h.sub w (List.mem_append_left _ hw)
 cl:=fun k hk hw=>by
   by_cases e:k=p
   . exact .inl e
   . exact .inr (h.cl k hk fun z=>by
       rcases List.mem_append.mp z with z|z
       . exact hw z
       . exact e (List.mem_singleton.mp z))
 seen:=fun e he=>by cases he
 pin:=h.sub p (List.mem_append_right _ (List.mem_singleton.mpr rfl))
 mu:=rfl
 up:=Nat.le_refl _
 wl:=by have:=h.wl;rw [List.length_append] at this;simp at this;omega
theorem JMid.step {m:Int} {rs:List Road} {p:Int} {es ks ws ks0:List Int} {n0:Nat} {e:Int} (h:JMid m rs p es ks ws ks0 n0) (h0:0<=e) (h1:e<m) :
   JMid m rs p (es++[e]) (rS (ks,ws) e).1 (rS (ks,ws) e).2 ks0 n0:=by
 unfold rS;by_cases c:e∈ks
 . rw [if_pos c];refine ⟨h.nd,h.zero,h.rng,h.sub,h.cl,fun x hx=>?_,h.pin,h.mu,h.up,h.wl⟩;rcases List.mem_append.mp hx with z|z
   . exact h.seen x z
   . rw [List.mem_singleton.mp z];exact c
 . rw [if_neg c];dsimp only;refine ⟨yI h.nd c,List.mem_append_left _ h.zero,fun k hk=>?_,fun w hw=>?_,fun k hk hw=>?_,fun x hx=>?_,List.mem_append_left _ h.pin,?_,by have:=h.up;simp;omega,by have:=h.wl;simp;exact this⟩
   . rcases List.mem_append.mp hk with z|z
     . exact h.rng k z
     . rw [List.mem_singleton.mp z];exact ⟨h0,h1⟩
   . rcases List.mem_append.mp hw with z|z
     . exact List.mem_append_left _ (h.sub w z)
     . exact List.mem_append_right _ z
   . rcases List.mem_append.mp hk with z|z
     . rcases h.cl k z fun y=>hw (List.mem_append_left _ y) with y|y
       . exact .inl y
       . exact .inr fun x hx=>List.mem_append_left _ (y x hx)
     . exact absurd (List.mem_append_right _ z) hw
   . rcases List.mem_append.mp hx with z|z
     . exact List.mem_append_left _ (h.seen x z)
     . exact List.mem_append_right _ z
   . have:=h.mu;simp only [List.length_append,List.length_cons,List.length_nil];omega
theorem JMid.done {m:Int} {rs:List Road} {p:Int} {ks ws ks0:List Int} {n0:Nat} (h:JMid m rs p (cR rs p) ks ws ks0 n0):JInv m rs ks ws where
 nd:=h.nd
 zero:=h.zero
 rng:=h.rng
 sub:=h.sub
 cl:=fun k hk hw=>by
   rcases h.cl k hk hw with z|z
   . rw [z];exact h.seen
   . exact z
 wl:=h.wl
theorem JInv.start {m:Int} {rs:List Road} (hm:1<=m):JInv m rs [0] [0] where
 nd:=by simp
 zero:=by simp
 rng:=fun k hk=>by rw [List.mem_singleton.mp hk];omega
 sub:=fun w hw=>hw
 cl:=fun k hk hw=>absurd hk hw
 wl:=by simp
theorem JInv.all {m:Int} {rs:List Road} {ks:List Int} (h:JInv m rs ks []) (hm:1<=m) (j:Ao m rs):(ks.length:Int)=m:=by
 have up:=kJ (by omega) h.nd h.rng;have:∀ v,0<=v->v<m->v∈ks:=j (fun v=>v∈ks) h.zero fun r hr=>by
   constructor
   . intro ha;exact h.cl r.a ha (by simp) r.b (qd.mpr ⟨r,hr,.inl ⟨rfl,rfl⟩⟩)
   . intro hb;exact h.cl r.b hb (by simp) r.a (qd.mpr ⟨r,hr,.inr ⟨rfl,rfl⟩⟩)
 have:=Bi (by omega) this;omega
theorem Ct {m:Int} {rs:List Road} (h:∀ r∈rs,RoadOk m r) {p e:Int} (he:e∈cR rs p):0<=e/\e<m:=by
 obtain ⟨r,hr,z⟩:=qd.mp he;have k:=h r hr;rcases z with ⟨_,rfl⟩|⟨_,rfl⟩
 . exact ⟨k.b0,k.b1⟩
 . exact ⟨k.a0,k.a1⟩
end Pb
set_option linter.all false
namespace Pb
section
variable {m:Int} {row:List Int} {rs rs':List Road}
end
end Pb
set_option Elab.async false
set_option linter.all false
set_option maxRecDepth 100000
namespace L2
open PySem PySem.Spec PyProof.Rows
def bG (CX:CXT):Prop:=∀ outer H s e s',¬ CX outer H s E0 e s'
theorem dj {CX:CXT} (q:bG CX) {X:Cx}:sB CX X E0:=fun _ _ _ _ _ _ _ h=>(q _ _ _ _ _ h).elim
structure Df (K:PySem.W.Frag) (mg:Str->Option Value) (x:Str) (st:Stmt) (ps:List Str) (f:Addr) (fd:FuncData):Prop where
 F:Fun K x x st f fd
 m:mg x=some (.ref f)
 b:Binds K fd ps []
section
variable {P:Program} {w:World} {K:PySem.W.Frag} {mg:Str->Option Value} {base:Heap} {CX:CXT}
theorem Fun.okC {x qual:Str} {st:Stmt} {f:Addr} {fd:FuncData} {N ps:List Str} {k:Nat} {sp:Sp} (F:Fun K x qual st f fd) (S:FnScope N ps (aa st)) (len:∀ vs H Q E,sp vs H Q E->vs.length=ps.length)
   (hbody:∀ (cdv:Value) (A:Around) (outer:List Env) (s:Shared) (H:Hp) (vs:List V) (Q:VK) (E:XK),Room k (A.deeper (envOfC qual (aa st) s.heap.objs.size f cdv))->sp vs H Q E ->
     ∃ t,PSs (ig CX P w K mg base N qual (aa st) f cdv A outer s H E).nox (aD st) t/\t { nx:=fun _ H'=>Q .non H',rt:=Q } (start N vs) H):FnOk P w K mg base CX (k+1) f fd ps sp:=by
 obtain ⟨oc,od,kV,doc,pm,an,cdv,ct,osl,rfl,lk,hcd⟩:=F.ex;refine De lk hcd S len fun A outer s H vs Q E hr hsp=>?_;obtain ⟨t,h,q⟩:=hbody cdv A outer s H vs Q E hr hsp;exact ⟨t,h.nox,q⟩
end
structure NmL (sc:Scope) (x:Str):Prop where
 l:sc.names.lookup x=some .local
 d:(x == ("__debug__":Str))=false
 c:(x == ("__classdict__":Str))=false
structure NmC (sc:Scope) (x:Str):Prop where
 l:sc.names.lookup x=some .cell
 d:(x == ("__debug__":Str))=false
 c:(x == ("__classdict__":Str))=false
structure NmG (sc:Scope) (x:Str):Prop where
 g:sc.names.lookup x=some .globalImplicit
 d:(x == ("__debug__":Str))=false
 n:x≠"__name__"
theorem us1 {us:List Value} (h:us.length=1):∃ a0,us=[a0]:=List.length_eq_one_iff.mp h
theorem us2 {us:List Value} (h:us.length=2):∃ a0 a1,us=[a0,a1]:=by
 cases us with
 | nil=>cases h
 | cons a0 t =>
   obtain ⟨a1,e⟩:=us1 (Nat.succ.inj h);subst e;exact ⟨a0,a1,rfl⟩
theorem us3 {us:List Value} (h:us.length=3):∃ a0 a1 a2,us=[a0,a1,a2]:=by
 cases us with
 | nil=>cases h
 | cons a0 t =>
   obtain ⟨a1,a2,e⟩:=us2 (Nat.succ.inj h);subst e;exact ⟨a0,a1,a2,rfl⟩
theorem us4 {us:List Value} (h:us.length=4):∃ a0 a1 a2 a3,us=[a0,a1,a2,a3]:=by
 cases us with
 | nil=>cases h
 | cons a0 t =>
   obtain ⟨a1,a2,a3,e⟩:=us3 (Nat.succ.inj h);subst e;exact ⟨a0,a1,a2,a3,rfl⟩
def nmL (sc:Scope) (x:Str):Bool:=decide (sc.names.lookup x=some .local) && !(x == ("__debug__":Str)) && !(x == ("__classdict__":Str))
def nmC (sc:Scope) (x:Str):Bool:=decide (sc.names.lookup x=some .cell) && !(x == ("__debug__":Str)) && !(x == ("__classdict__":Str))
def nmG (sc:Scope) (x:Str):Bool:=decide (sc.names.lookup x=some .globalImplicit) && !(x == ("__debug__":Str)) && !decide (x="__name__")
theorem NmL.of {sc:Scope} {x:Str} (h:nmL sc x=true):NmL sc x:=by
 unfold nmL at h;simp only [Bool.and_eq_true,decide_eq_true_eq,Bool.not_eq_true'] at h;exact ⟨h.1.1,h.1.2,h.2⟩
theorem NmC.of {sc:Scope} {x:Str} (h:nmC sc x=true):NmC sc x:=by
 unfold nmC at h;simp only [Bool.and_eq_true,decide_eq_true_eq,Bool.not_eq_true'] at h;exact ⟨h.1.1,h.1.2,h.2⟩
theorem NmG.of {sc:Scope} {x:Str} (h:nmG sc x=true):NmG sc x:=by
 unfold nmG at h;simp only [Bool.and_eq_true,decide_eq_true_eq,Bool.not_eq_true',decide_eq_false_iff_not] at h;exact ⟨h.1.1,h.1.2,h.2⟩
def ES (N ps:List Str) (sc:Scope):Bool:=decide (sc.kind=.function) && !sc.isCoroutine && !sc.isGenerator && decide N.Nodup && decide (N.take ps.length=ps) && (ps.all fun x=>decide (sc.names.lookup x=some .local\/sc.names.lookup x=some .cell)) && (sc.names.all fun y=>decide (y.2≠.free))
theorem FnScope.of {N ps:List Str} {sc:Scope} (h:ES N ps sc=true):FnScope N ps sc:=by
 unfold ES at h;simp only [Bool.and_eq_true,decide_eq_true_eq,Bool.not_eq_true',List.all_eq_true] at h;obtain ⟨⟨⟨⟨⟨⟨h1,h2⟩,h3⟩,h4⟩,h5⟩,h6⟩,h7⟩:=h;exact ⟨h1,h2,h3,h4,h5,h6,h7⟩
theorem pvl {X:Cx} (i:Nat) {x:Str} {pos:Pos} (n:NmL X.env.scope x) (hN:X.N[i]?=some x:=by rfl):PE X (.Name x pos) (sR i):=v6 hN (.inl n.l) n.d n.c
theorem pvc {X:Cx} (i:Nat) {x:Str} {pos:Pos} (n:NmC X.env.scope x) (hN:X.N[i]?=some x:=by rfl):PE X (.Name x pos) (sR i):=v6 hN (.inr (.inl n.l)) n.d n.c
theorem zJ {CX:CXT} {P:Program} {w:World} {K:PySem.W.Frag} {mg:Str->Option Value} {base:Heap} {N:List Str} {qual:Str} {scope:Scope} {f:Addr} {cd:Value} {A:Around} {outer:List Env} {s:Shared} {H:Hp} {E:XK} :
   (ig CX P w K mg base N qual scope f cd A outer s H E).K=K:=rfl
theorem uI (D:Ends) (σ:St) (H:Hp):tNever D σ H=False:=rfl
theorem DQ (i j:Int):o5 (.int i) (.int j)=true:=rfl
theorem DA (i j:Bool):o5 (.bl i) (.bl j)=true:=rfl
theorem DL (i:Int):o5 (.int i) .non=true:=rfl
theorem D8 (i:Int):o5 .non (.int i)=true:=rfl
theorem DX:o5 .non .non=true:=rfl
theorem DE (i j:Str):o5 (.str i) (.str j)=true:=rfl
theorem ixT {K:PySem.W.Frag} {H:Hp} {p:Addr} {xs:List V} {i:Int} {v:V} {Q:VK} (h:H p=some (.tup xs)) (e:atI xs i=some v) (q:Q v H):Eu K (.ref p) (.int i) H Q:=⟨p,xs,i,v,rfl,rfl,SqT.of h,e,q⟩
theorem ixL {K:PySem.W.Frag} {H:Hp} {p:Addr} {xs:List V} {i:Int} {v:V} {Q:VK} (h:H p=some (.lst xs)) (e:atI xs i=some v) (q:Q v H):BA K (.ref p) (.int i) H Q:=⟨p,xs,i,v,rfl,rfl,SqL.of h,e,q⟩
theorem tyL {K:PySem.W.Frag} {H:Hp} {l:Addr} {xs:List V} (h:H l=some (.lst xs)):tyV K "list" (.ref l) H:=.inl ⟨rfl,_,SqL.of h⟩
theorem qf {H:Hp} {l:Addr} {xs:List V} {y:V} {Q:VK} (h:H l=some (.lst xs)) (hz:xs.length<sizeLine) (q:Q .non (upd H l (.lst (xs++[y])))):rAppend (.ref l) [y] H Q:=⟨l,xs,y,rfl,rfl,h,hz,q⟩
theorem FB {H:Hp} {l:Addr} {xs:List V} {i:Int} {y:V} {Q:VK} (h:H l=some (.lst xs)) (h0:0<=i) (h1:i<=xs.length) (hz:xs.length<sizeLine) (q:Q .non (upd H l (.lst (xs.take i.toNat++y::xs.drop i.toNat)))):rInsert (.ref l) [.int i,y] H Q :=
 ⟨l,xs,i,y,rfl,rfl,h,h0,h1,hz,q⟩
theorem Fw {H:Hp} {l:Addr} {xs:List V} {y:V} {Q:VK} (h:H l=some (.lst (xs++[y]))) (q:Q y (upd H l (.lst xs))):rPop (.ref l) [] H Q :=
 ⟨l,xs++[y],y,rfl,rfl,h,by simp,by rw [List.dropLast_concat];exact q⟩
theorem small {n:Nat} (h:n<=100000):n<sizeLine:=Nat.lt_of_le_of_lt h (by decide)
theorem ap {n:Nat} (h:n<=100000):n<=sizeLine:=Nat.le_of_lt (small h)
theorem jK {α:Type} {xs:List α} {i:Int} {v:α} (h0:0<=i) (h:xs[i.toNat]?=some v):atI xs i=some v:=by
 obtain ⟨n,rfl⟩:∃ n:Nat,i=n:=⟨i.toNat,by omega⟩;exact tS (by simpa using h)
theorem m5 {X:Cx} {x:Str} {i:Int} {pos:Pos} (hg:Gl X x) (hm:∃ t,X.mg x=some (.int i t)) (hd:(x == ("__debug__":Str))=false:=by decide):PE X (.Name x pos) (tC (.int i)):=by
 obtain ⟨t,e⟩:=hm;exact d0 hg e ⟨t,rfl⟩ hd
def Itx (K:PySem.W.Frag):Bool->Addr->It
 | true,a=>Itl K a
 | false,a=>Itt K a
def BO (K:PySem.W.Frag) (c:Bool) (tl:TE):TI:=fun σ H R=>tl σ H fun x H1=>∃ a,x=.ref a/\(∃ xs,SqX K c H1 a xs)/\R (Itx K c a) H1
theorem ER {X:Cx} {tg l:Expr} {tl:TE} (c:Bool) (hl:PE X l tl):PI X tg l (BO X.K c tl):=by
 cases c
 . exact rY hl
 . exact gg hl
def vX (J:It) (p:Addr) (Q:VK) (g:TG) (tc:TT) (te:TE) (σ0:St) (H0:Hp):Prop :=
 ∃ W:Nat->Nat->List V->St->Hp->Prop,(∃ m,W 0 m [] σ0 H0)/\∀ i m ys σc Hc,W i m ys σc Hc ->
   (J.stop i Hc/\Q (.ref p) Hc)\/(J.go i Hc/\∀ x H',J.yld i Hc x H'->g x σc H' fun σ2 H2=>tc σ2 H2 fun b H3 =>
     if b=true then te σ2 H3 fun y H4=>H4 p=some (.lst ys)/\ys.length<sizeLine/\∃ m',m'<m/\W (i+1) m' (ys++[y]) σ2 (upd H4 p (.lst (ys++[y])))
     else ∃ m',m'<m/\W (i+1) m' ys σ2 H3)
theorem uq {own:Nat} {js:List Nat} {wi:TI} {g:TG} {tc:TT} {te:TE} {σ:St} {H:Hp} {Q:VK}:rz own js wi g tc te σ H Q=wi σ H fun J H1=>∀ p,H1 p=none->vX J p Q g tc te (d8 own js σ) (upd H1 p (.lst [])):=rfl
def jE (J:It) (D:Ends) (g:TG) (tb:TS) (σ:St) (H:Hp):Prop:=∃ W:Nat->Nat->St->Hp->Prop,(∃ m,W 0 m σ H)/\∀ i m σ H,W i m σ H ->
 (J.stop i H/\D.nx σ H)\/(J.go i H/\∃ N:St->Hp->Prop,(∀ σ' H',N σ' H'->∃ m',m'<m/\W (i+1) m' σ' H')/\∀ x H',J.yld i H x H'->g x σ H' fun σ2 H2=>tb { D with nx:=N,ct:=N,bk:=D.nx } σ2 H2)
theorem yi {wi:TI} {g:TG} {tb:TS} {D:Ends} {σ:St} {H:Hp}:Ec wi g tb D σ H=wi σ H fun J H1=>jE J D g tb σ H1:=rfl
theorem iE {K:PySem.W.Frag} {c:Bool} {a p:Addr} {xs:List V} {Q:VK} {g:TG} {tc:TT} {te:TE} {σ0:St} {H0:Hp} (Pv:Nat->List V->St->Hp->Prop) (h0:Pv 0 [] σ0 H0) (hl:∀ i ys σ H,i<=xs.length->Pv i ys σ H->SqX K c H a xs)
   (hs:∀ (i:Nat) (x:V) (ys:List V) (σ:St) (H:Hp) (N:List V->St->Hp->Prop),(∀ ys' σ' H',Pv (i+1) ys' σ' H'->N ys' σ' H')->xs[i]?=some x->Pv i ys σ H->g x σ H fun σ2 H2=>tc σ2 H2 fun b H3 =>
     if b=true then te σ2 H3 fun y H4=>H4 p=some (.lst ys)/\ys.length<sizeLine/\N (ys++[y]) σ2 (upd H4 p (.lst (ys++[y]))) else N ys σ2 H3)
   (hd:∀ ys σ H,Pv xs.length ys σ H->Q (.ref p) H):vX (Itx K c a) p Q g tc te σ0 H0:=by
 refine ⟨fun i m ys σ H=>m=xs.length - i/\i<=xs.length/\Pv i ys σ H,⟨xs.length,by simp,Nat.zero_le _,h0⟩,?_⟩;rintro i m ys σ H ⟨rfl,hi,pv⟩;have q:=hl i ys σ H hi pv;by_cases hlt:i<xs.length
 . refine .inr ⟨?_,fun x H' y=>?_⟩
   . cases c
     . exact ⟨xs,xs[i],q,by simp [hlt]⟩
     . exact ⟨xs,xs[i],q,by simp [hlt]⟩
   . have e:H'=H/\xs[i]?=some x:=by
       cases c
       . exact ⟨y.1,y.2 xs q⟩
       . exact ⟨y.1,y.2 xs q⟩
     obtain ⟨rfl,hx⟩:=e;exact hs i x ys σ _ (fun ys' σ' H'=>∃ m',m'<xs.length - i/\(m'=xs.length - (i+1)/\i+1<=xs.length/\Pv (i+1) ys' σ' H')) (fun ys' σ' H' pv'=>⟨xs.length - (i+1),by omega,rfl,hlt,pv'⟩) hx pv
 . have e:i=xs.length:=by omega
   subst e;refine .inl ⟨?_,hd ys σ H pv⟩;cases c
   . exact ⟨xs,q,Nat.le_refl _⟩
   . exact ⟨xs,q,Nat.le_refl _⟩
theorem cV:bootBuiltins "len"=some (.builtin "len"):=by decide +kernel
theorem du:bootBuiltins "isinstance"=some (.builtin "isinstance"):=by decide +kernel
theorem Eo:bootBuiltins "all"=some (.builtin "all"):=by decide +kernel
theorem Ep:bootBuiltins "max"=some (.builtin "max"):=by decide +kernel
theorem zV:bootBuiltins "int"=some (.type "int"):=by decide +kernel
theorem D4:bootBuiltins "list"=some (.type "list"):=by decide +kernel
theorem qQ:bootBuiltins "tuple"=some (.type "tuple"):=by decide +kernel
section
variable {X:Cx} {a b o e:Expr} {es:List Expr} {ta tb to:TE} {t:TA} {pos apos cpos:Pos} {f name:Str} {T id:String} {r:V->List V->Hp->VK->Prop}
theorem lP (K:PySem.W.Frag) (h:X.K=K):dk X (.type "tuple") (fun xs H Q=>∃ p ys,xs=[.ref p]/\((SqL K H p ys/\∀ l,H l=none->Q (.ref l) (upd H l (.tup ys)))\/(SqT K H p ys/\Q (.ref p) H))):=by subst h;exact nH
end
theorem sG {x:Str} {k:NameKind}:∀ {l:List (Str × NameKind)},l.lookup x=some k->∃ y,(y,k)∈l
 | [],h=>by simp at h
 | (n,j)::r,h=>by
   rw [List.lookup_cons] at h;cases q:x == n with
   | true =>
     rw [q] at h;cases h;exact ⟨n,List.mem_cons_self⟩
   | false =>
     rw [q] at h;obtain ⟨y,hy⟩:=sG h;exact ⟨y,List.mem_cons_of_mem _ hy⟩
theorem g6 {X:Cx} {Nc:List Str} {scope:Scope} (own:Nat) (hf:∀ y∈scope.names,y.2≠.free) (hc:∀ y∈scope.names,y.2≠.cell) (hk:scope.kind=.function) (hn:∀ y∈scope.names,y.2=.local->scope.names.lookup y.1=some .local)
   (hl:Nc.length=own):CompTxt X Nc own [] scope [] where
 clos:=closureFor_none hf
 kind:=hk
 nocell:=hc
 names:=hn
 cells:=fun x c h=>by cases h
 has:=fun x h=>by
   have key:∀ k,(relabel scope X.env).names.lookup x=some k->k≠.cell/\k≠.free:=fun k e=>by
     obtain ⟨y,hy⟩:=sG e;obtain ⟨⟨n,k0⟩,hm,e2⟩:=List.mem_map.mp hy;have h1:=hf _ hm;have h2:=hc _ hm;have e3:(k0 == NameKind.free)=false:=(by simpa using h1);simp only [e3,Bool.false_and,Bool.false_eq_true,if_false] at e2;cases e2;exact ⟨h2,h1⟩
   rcases h with h|h
   . exact absurd rfl (key _ h).1
   . exact absurd rfl (key _ h).2
 len:=by simpa using hl
 outer:=fun i x h=>by
   rw [List.getElem?_eq_none (by omega)] at h;cases h
theorem uO {K:PySem.W.Frag} {a:Addr} {xs:List V} {g:TG} {tb:TS} {D:Ends} {σ:St} {H:Hp} (Pv:Nat->St->Hp->Prop) (h0:Pv 0 σ H) (hl:∀ i σ H,i<=xs.length->Pv i σ H->SqL K H a xs)
   (hs:∀ (i:Nat) (x:V) (σ:St) (H:Hp) (N:St->Hp->Prop),(∀ σ' H',Pv (i+1) σ' H'->N σ' H')->xs[i]?=some x->Pv i σ H->g x σ H fun σ2 H2=>tb { D with nx:=N,ct:=N,bk:=D.nx } σ2 H2) (hd:∀ σ H,Pv xs.length σ H->D.nx σ H) :
   jE (Itl K a) D g tb σ H:=BN Pv h0 hl (fun i x σ H hx p=>hs i x σ H (Pv (i+1)) (fun _ _ z=>z) hx p) hd
theorem Bg {K:PySem.W.Frag} {a:Addr} {xs:List V} {g:TG} {tb:TS} {D:Ends} {σ:St} {H:Hp} (Pv:Nat->St->Hp->Prop) (h0:Pv 0 σ H) (hl:∀ i σ H,i<=xs.length->Pv i σ H->SqT K H a xs)
   (hs:∀ (i:Nat) (x:V) (σ:St) (H:Hp) (N:St->Hp->Prop),(∀ σ' H',Pv (i+1) σ' H'->N σ' H')->xs[i]?=some x->Pv i σ H->g x σ H fun σ2 H2=>tb { D with nx:=N,ct:=N,bk:=D.nx } σ2 H2) (hd:∀ σ H,Pv xs.length σ H->D.nx σ H) :
   jE (Itt K a) D g tb σ H:=tJ Pv h0 hl (fun i x σ H hx p=>hs i x σ H (Pv (i+1)) (fun _ _ z=>z) hx p) hd
theorem yE {lo:Int} {n:Nat} {g:TG} {tb:TS} {D:Ends} {σ:St} {H:Hp} (Pv:Nat->St->Hp->Prop) (h0:Pv 0 σ H)
   (hs:∀ (i:Nat) (σ:St) (H:Hp) (N:St->Hp->Prop),(∀ σ' H',Pv (i+1) σ' H'->N σ' H')->i<n->Pv i σ H->g (.int (lo+i)) σ H fun σ2 H2=>tb { D with nx:=N,ct:=N,bk:=D.nx } σ2 H2) (hd:∀ σ H,Pv n σ H->D.nx σ H) :
   jE (Itr lo n) D g tb σ H:=Ay Pv h0 (fun i σ H hi p=>hs i σ H (Pv (i+1)) (fun _ _ z=>z) hi p) hd
theorem D2 {c:TT} {tb:TS} {D:Ends} {σ:St} {H:Hp} (W:Nat->St->Hp->Prop) (n0:Nat) (h0:W n0 σ H)
   (hs:∀ (n:Nat) (σ:St) (H:Hp) (N:St->Hp->Prop),(∀ n' σ' H',n'<n->W n' σ' H'->N σ' H')->(∀ σ' H',N σ' H'->∃ m',m'<n/\W m' σ' H')->W n σ H ->
     c σ H fun b H1=>if b=true then ∃ N:St->Hp->Prop,(∀ σ' H',N σ' H'->∃ m',m'<n/\W m' σ' H')/\tb { D with nx:=N,ct:=N,bk:=D.nx } σ H1 else D.nx σ H1):A2 c tb D σ H :=
 ⟨W,⟨n0,h0⟩,fun n σ H w=>hs n σ H (fun σ' H'=>∃ m',m'<n/\W m' σ' H') (fun n' _ _ hn w'=>⟨n',hn,w'⟩) (fun _ _ z=>z) w⟩
open Pb
def pE (r:Road):List V:=[.int r.a,.int r.b,.int r.t,.int r.u]
abbrev RoadsAt (H:Hp):List Addr->List Road->Prop:=Paired fun p r=>H p=some (.tup (pE r))
theorem RoadsAt.same {H H':Hp} (e:Same H H') {ps:List Addr} {rs:List Road} (h:RoadsAt H ps rs):RoadsAt H' ps rs:=Paired.imp' (fun p r q=>e p _ q) h
theorem RoadsAt.get {H:Hp}:∀ {ps:List Addr} {rs:List Road} {i:Nat} {x:V},RoadsAt H ps rs->(ps.map V.ref)[i]?=some x->∃ p r,x=.ref p/\ps[i]?=some p/\rs[i]?=some r/\H p=some (.tup (pE r))
 | _,_,i,x,.nil,e=>by simp at e
 | _,_,0,x,.cons (a:=p) (b:=r) h hs,e=>⟨p,r,by simpa using e.symm,by simp,by simp,h⟩
 | a::l1,_,i+1,x,.cons h hs,e=>by
   have e':(List.map V.ref l1)[i]?=some x:=by simpa using e
   obtain ⟨p,r,h1,h2,h3,h4⟩:=RoadsAt.get hs e';exact ⟨p,r,h1,by simpa using h2,by simpa using h3,h4⟩
theorem Same.tup {K:PySem.W.Frag} {H H':Hp} {a:Addr} {xs:List V} (e:Same H H') (h:SqT K H a xs):SqT K H' a xs:=by
 rcases h with (h|⟨o,h⟩)|h
 . exact .inl (.inl (e _ _ h))
 . exact .inl (.inr ⟨o,e _ _ h⟩)
 . exact .inr h
theorem Same.sqX {K:PySem.W.Frag} {H H':Hp} {c:Bool} {a:Addr} {xs:List V} (e:Same H H') (h:SqX K c H a xs):SqX K c H' a xs:=by
 cases c
 . exact Same.tup e h
 . exact Same.seq e h
theorem Same.new {H:Hp} {p:Addr} (o:HO) (h:H p=none):Same H (upd H p o):=fun b u e=>by rw [am (au e h)];exact e
end L2
set_option Elab.async false
set_option linter.all false
set_option maxRecDepth 100000
namespace L2
open PySem PySem.Spec PyProof.Rows
abbrev bmV:List Value:=[.type "ValueError",.type "Exception",.type "BaseException",.type "object"]
structure XCls (K:PySem.W.Frag) (C:Addr):Prop where
 ty:PySem.W.typeIn K (.ref C)=some (.type "type")
 ga:PySem.W.findIn K (.ref C) "__getattribute__"=some (some (.builtin "BaseException.__getattribute__"))
 gt:PySem.W.findIn K (.ref C) "__getattr__"=some none
 cl:PySem.W.findIn K (.ref C) "__class__"=some (some (.builtin "object.__class__"))
 gs:PySem.W.specialIn K (.builtin "object.__class__") "__get__"=some (some (.builtin "getset_descriptor.__get__"))
 tk:PySem.W.takesIn K (.builtin "object.__class__")=some true
 mo:PySem.W.mroIn K C (.type "object")=some true
 mb:PySem.W.mroIn K C (.type "BaseException")=some true
 hd:PySem.W.hasDictIn K C=true
 sf:PySem.W.mroIn K C (.ref C)=some true
theorem Ab {K:PySem.W.Frag} {C:Addr} {od:Option Obj} {name:Str} {a g:Value} (hc:(PySem.W.clsIn K C).isSome=true) (ha:PySem.W.findIn K (.ref C) name=some (some a)) (hg:PySem.W.specialIn K a "__get__"=some (some g)) (ht:PySem.W.takesIn K a=some true) :
   PySem.W.findObj K C od name=some (.bind g a):=by
 obtain ⟨cd,hc⟩:=Option.isSome_iff_exists.mp hc;unfold PySem.W.findObj;rw [hc,Option.bind_some,ha,Option.bind_some];simp [hg,ht]
section
variable {prog:Program} {w:World} {A:Around} {E:Value->Shared->Prop} {s:Shared} {K:PySem.W.Frag} {x C:Addr} {ox:Obj} {od:Option Obj}
theorem uJ {M:Model} {nv:Value} {Q:Unit->Shared->Prop} (X:K.In s.heap) (I:PySem.W.InstAt s.heap x ox C od) (c:XCls K C) (h:Q () s):wpAny M A (checkBuiltinCall "BaseException.__getattribute__" ⟨[.ref x,nv],[]⟩) Q E s:=by
 obtain ⟨hh,g,dr,t,os⟩:=s;have hk:builtinKind "BaseException.__getattribute__"=some .slot:=by decide +kernel
 have hs:splitId "BaseException.__getattribute__"=some ("BaseException","__getattribute__"):=by decide +kernel
 have L0:=I.type (M:=M);have L1:=PySem.W.looks_mroIn (M:=M) X c.mb;have ha:=F.args_bexc_ga (.ref x) nv;simp only [checkBuiltinCall,hk,hs];unfold isInstance
 repeat (first|lk|wp_step)
 exact h
theorem Ai {Q:Option Value->Shared->Prop} (X:K.In s.heap) (I:PySem.W.InstAt s.heap x ox C od) (c:XCls K C) (h:Q (some (.ref C)) { s with toks:=s.toks+1 }):wpAny (model prog w) A (getAttr? (.ref x) "__class__") Q E s:=by
 obtain ⟨hh,g,dr,t,os⟩:=s;have hc:(PySem.W.clsIn K C).isSome=true:=by
   obtain ⟨cd,e,_⟩:=PySem.W.any_some c.hd;rw [e]
   rfl
 have L0:=I.type (M:=model prog w);have L1:=PySem.W.looks_findIn (M:=model prog w) X c.ga;have L2:=PySem.W.looks_findIn (M:=model prog w) X c.gt;have L3:=PySem.W.looks_find (M:=model prog w) X I (Ab (od:=od) hc c.cl c.gs c.tk);have n2:(Value.builtin "BaseException.__getattribute__" == Value.builtin "object.__getattribute__")=false:=by decide +kernel
 have n1:(onTheHeap (Value.ref C) && Value.builtin "BaseException.__getattribute__" == Value.builtin "object.__getattribute__")=false:=by rw [n2];rfl
 have b1:=F.excAttr_ValueError.ga.bind (.ref x);unfold getAttr? getAttrBy? getAttrBy;refine wpAny_bind (wpAny_mkText (wpAny_bind (wpAny_attempt (wpAny_holding (wpAny_bind (L0.at (wpAny_bind (L1.at ?_))))))));dsimp only;rw [n1];simp only [Bool.false_eq_true,if_false];unfold getAttrByItsOwn hookBefore callGetattribute boundAndCalled;simp only [onTheHeap,Bool.and_false,Bool.false_eq_true,if_false,if_true];refine wpAny_bind (L2.at (wpAny_bind (wpAny_attempt (wpAny_holding (wpAny_bind (wpAny_of_eq b1 ?_))))));refine wpAny_call (codeAny_call_builtin F.excAttr_ValueError.ga.plain F.entry_bexc_ga (uJ X I c ?_));unfold Builtin.«object.__getattribute__»
 repeat lk
 refine wpAny_run (h:=none) (PySem.W.class_get (s:=⟨hh,g,dr,t+1,os⟩) (ox:=ox) (od:=od) X I c.mo ?_);refine wpAny_pure (wpAny_pure ?_);exact PySem.W.handed_on rfl (wpAny_pure h)
theorem wz (c:XCls K C):PySem.W.KitX K (.ref x) (.ref C) (fun h=>PySem.W.InstAt h x ox C od) where
 ty:=fun _ _ _ I=>I.type
 it:=fun _ _ X _=>by
   obtain ⟨cd,e,_⟩:=PySem.W.any_some c.hd;unfold PySem.W.clsIn at e;split at e
   . rename_i ho
     intro A' Q' E' s' k q;unfold isType loadHead;exact wpAny_bind (wpAny_loadPart (k _ _ (X _ _ ho)) (wpAny_pure q))
   . cases e
 ne:=fun h tp dd its n sl X htp=>by
   obtain ⟨cd,e,_⟩:=PySem.W.any_some c.hd;refine Bool.eq_false_iff.mpr fun q=>?_;have z:C=tp:=Value.ref.inj (beq_iff_eq.mp q);subst z;unfold PySem.W.clsIn at e;split at e
   . rename_i ho
     cases (X _ _ ho).symm.trans htp
   . cases e
 ca:=fun X I k=>Ai X I c k
end
end L2
set_option Elab.async false
set_option linter.all false
set_option maxRecDepth 100000
namespace L2
open PySem PySem.Spec PyProof.Rows
def fZ (h:Heap) (ea:Addr) (cls:Value) (od:Option Addr) (head:Value):Prop:=∃ oe vs,h.get? ea=some oe/\oe.cls=cls/\oe.dict=od/\oe.data=.fields vs/\vs[1]?=some head/\vs[2]?=some .none
def TbO (h:Heap) (T:Addr) (fl:Value):Prop:=∃ oT ts,h.get? T=some oT/\oT.data=.fields ts/\ts[3]?=some fl
structure Err (h:Heap) (ea T:Addr) (cls:Value) (od:Option Addr) (fl:Value):Prop where
 e:fZ h ea cls od (.ref T)
 t:TbO h T fl
 ne:T≠ea
structure Kept (fs xs:List Addr) (h h':Heap):Prop where
 keep:∀ b o,h.get? b=some o->b ∉ fs->b ∉ xs->h'.get? b=some o
 slot:∀ b o,h.get? b=some o->b∈fs->b ∉ xs->∃ sl,h'.get? b=some { o with slots:=sl }
 there:∀ b o,h.get? b=some o->∃ o',h'.get? b=some o'
theorem Kept.mono {fs xs ys:List Addr} {h h':Heap} (k:Kept fs xs h h') (s:∀ b∈xs,b∈ys):Kept fs ys h h':=⟨fun b o e f x=>k.keep b o e f fun z=>x (s b z),fun b o e f x=>k.slot b o e f fun z=>x (s b z),k.there⟩
theorem Kept.trans {fs xs:List Addr} {h h1 h2:Heap} (a:Kept fs xs h h1) (b:Kept fs xs h1 h2):Kept fs xs h h2 where
 keep:=fun c o e f x=>b.keep c o (a.keep c o e f x) f x
 slot:=fun c o e f x=>by
   obtain ⟨s1,e1⟩:=a.slot c o e f x;obtain ⟨s2,e2⟩:=b.slot c _ e1 f x;exact ⟨s2,e2⟩
 there:=fun c o e=>by
   obtain ⟨o1,e1⟩:=a.there c o e;exact b.there c o1 e1
theorem Kept.of_all {fs xs:List Addr} {h h':Heap} (k:∀ b o,h.get? b=some o->h'.get? b=some o):Kept fs xs h h':=⟨fun b o e _ _=>k b o e,fun b o e _ _=>⟨o.slots,k b o e⟩,fun b o e=>⟨o,k b o e⟩⟩
theorem ky {fs xs:List Addr} {h:Heap} {a:Addr} {oa:Obj} {vs:Array Value} {i:Nat} {v:Value} (ha:h.get? a=some oa) (hd:oa.data=.fields vs) (hx:a∈xs):Kept fs xs h (h.update a (Obj.mapFields (·.setIfInBounds i v))):=by
 have oth:∀ b o,h.get? b=some o->b ∉ xs->(h.update a (Obj.mapFields (·.setIfInBounds i v))).get? b=some o:=fun b o e x=>by
   rw [Heap.get?_update_other _ _ (fun (z:a=b)=>x (z ▸ hx))];exact e
 refine ⟨fun b o e _ x=>oth b o e x,fun b o e _ x=>⟨o.slots,oth b o e x⟩,fun b o e=>?_⟩;by_cases z:b=a
 . subst z;exact ⟨_,Heap.get?_update_self _ ha (Obj.isFreed_of_fields (Obj.data_mapFields hd _))⟩
 . rw [Heap.get?_update_other _ _ (Ne.symm z)];exact ⟨o,e⟩
theorem BP {h:Heap} {ea:Addr} {cls hd v:Value} {od:Option Addr} (e:fZ h ea cls od hd):fZ (h.update ea (Obj.mapFields (·.setIfInBounds 1 v))) ea cls od v:=by
 obtain ⟨oe,vs,h1,h2,h3,h4,h5,h6⟩:=e;have sz:1<vs.size:=(Array.getElem?_eq_some_iff.mp h5).1;refine ⟨_,_,Heap.get?_update_self _ h1 (Obj.isFreed_of_fields (Obj.data_mapFields h4 _)),?_,?_,Obj.data_mapFields h4 _,by simp [sz],by rw [Array.getElem?_setIfInBounds_ne (by decide)];exact h6⟩
 . rw [<- h2];exact Obj.cls_mapFields _ _
 . rw [<- h3];obtain ⟨c,d,dt,sl⟩:=oe;cases dt <;> rfl
theorem jF {h:Heap} {ea a:Addr} {cls hd:Value} {od:Option Addr} {f:Obj->Obj} (e:fZ h ea cls od hd) (ne:a≠ea):fZ (h.update a f) ea cls od hd:=by
 obtain ⟨oe,vs,h1,h2⟩:=e;exact ⟨oe,vs,by rw [Heap.get?_update_other _ _ ne];exact h1,h2⟩
theorem uo {h h':Heap} {ea:Addr} {cls hd:Value} {od:Option Addr} (e:fZ h ea cls od hd) (k:∀ o,h.get? ea=some o->h'.get? ea=some o):fZ h' ea cls od hd:=by
 obtain ⟨oe,vs,h1,h2⟩:=e;exact ⟨oe,vs,k _ h1,h2⟩
theorem Ah {h base:Heap} {ea:Addr} {cls hd:Value} {od:Option Addr} {l:List Env} (e:fZ h ea cls od hd) (f:h.FunFrames base l):ea ∉ frs l:=fun z=>by
 obtain ⟨oe,vs,h1,_,_,h4,_⟩:=e;obtain ⟨_,o,ho,hn⟩:=f.mem z;rw [h1] at ho;cases ho;exact hn vs h4
theorem wO {h base:Heap} {T:Addr} {fl:Value} {l:List Env} (e:TbO h T fl) (f:h.FunFrames base l):T ∉ frs l:=fun z=>by
 obtain ⟨oe,vs,h1,h4,_⟩:=e;obtain ⟨_,o,ho,hn⟩:=f.mem z;rw [h1] at ho;cases ho;exact hn vs h4
section
variable {M:Model} {A:Around} {E:Value->Shared->Prop} {s:Shared} {Q:Unit->Shared->Prop} {fs:List Addr} {ea T L:Addr} {cls fl hd:Value} {od:Option Addr} {base:Heap} {env:Env} {outer:List Env}
theorem l4 (r:Err s.heap ea T cls od fl) (h:∀ h',Err h' ea T cls od .none->Kept fs [T] s.heap h'->Q () { s with heap:=h' }):wpAny M A (setFlight (.ref ea) none) Q E s:=by
 obtain ⟨⟨oe,vs,h1,h2,h3,h4,h5,h6⟩,⟨oT,ts,t1,t2,t3⟩,ne⟩:=r;have sz:3<ts.size:=(Array.getElem?_eq_some_iff.mp t3).1;unfold setFlight;refine wpAny_bind (wpAny_field h1 h4 h5 ?_);rw [if_pos (by simp:(Value.ref T != Value.none)=true)];refine wpAny_setField t1 t2 sz (h _ ⟨jF ⟨oe,vs,h1,h2,h3,h4,h5,h6⟩ ne,⟨_,_,Heap.get?_update_self _ t1 (Obj.isFreed_of_fields (Obj.data_mapFields t2 _)),Obj.data_mapFields t2 _,by simp [sz]⟩,ne⟩ (ky t1 t2 (by simp)))
theorem qK {head:Value} {hadNext:Bool} (hfr:A.frames=some (env::outer)) (hl:s.heap.FunFrames base (env::outer)) (hf:env.frame=some L) (r:fZ s.heap ea cls od hd)
   (h:∀ h' T',Err h' ea T' cls od (rawInt L)->Kept (frs (env::outer)) [ea] s.heap h'->s.heap.get? T'=none->Q () { s with heap:=h' }) :
   wpAny M A (do let a <- frameOf env;let pl <- entryPlaceOf L hadNext;let b <- EntryCells.newEntry head a .none (rawInt L) .none pl;setField (.ref ea) 1 b) Q E s:=by
 have nf:=Ah r hl;refine wpAny_bind (wpAny_frameOf_fun hfr hl hf fun g1 so=>wpAny_bind (wpAny_entryPlaceOf fun pl hpl=>?_));unfold EntryCells.newEntry newFields;refine wpAny_bind (wpAny_newObj_type ?_ (hpl.sizeOk5 _ _ _ _ _));have r1:fZ g1 ea cls od hd:=uo r fun o e=>(so.2.1 ea nf).trans e;generalize ht:({ cls:=.type "traceback",dict:=none,data:=.fields ([head,.ref L,.none,rawInt L,.none]++(if pl.isEmpty then List.replicate 6 Value.none else pl)).toArray }:Obj)=tb;have r2:fZ (g1.push tb) ea cls od hd:=uo r1 fun o e=>Heap.get?_push_of_some _ e;obtain ⟨oe,vs,e1,e2,e3,e4,e5,e6⟩:=id r2;have lt:ea<g1.objs.size:=by
   obtain ⟨_,_,e,_⟩:=r1;exact Heap.lt_size e
 have hT:(g1.push tb).get? g1.objs.size=some tb:=Heap.get?_push_size g1 (by rw [<- ht];rfl);refine wpAny_setField e1 e4 (Array.getElem?_eq_some_iff.mp e5).1 (h _ g1.objs.size ⟨BP r2,⟨tb,([head,.ref L,.none,rawInt L,.none]++(if pl.isEmpty then List.replicate 6 Value.none else pl)).toArray,?_,by rw [<- ht],by simp⟩,Nat.ne_of_gt lt⟩ ?_ ?_)
 . rw [Heap.get?_update_other _ _ (Nat.ne_of_lt lt)];exact hT
 . have k1:Kept (frs (env::outer)) [ea] s.heap g1:=⟨fun b o e f _=>(so.2.1 b f).trans e,fun b o e _ _=>so.2.2 b o e,fun b o e=>by
     obtain ⟨sl,z⟩:=so.2.2 b o e;exact ⟨_,z⟩⟩
   exact k1.trans ((Kept.of_all fun b o e=>Heap.get?_push_of_some _ e).trans (ky e1 e4 (by simp)))
 . exact Heap.get?_none_of_le (by rw [so.1];exact Nat.le_refl _)
theorem Ch (hfr:A.frames=some (env::outer)) (hl:s.heap.FunFrames base (env::outer)) (hf:env.frame=some L) (r:fZ s.heap ea cls od .none)
   (h:∀ h' T',Err h' ea T' cls od (rawInt L)->Kept (frs (env::outer)) [ea] s.heap h'->s.heap.get? T'=none->Q () { s with heap:=h' }):wpAny M A (noteFrame (.ref ea) env) Q E s:=by
 obtain ⟨oe,vs,e1,e2,e3,e4,e5,e6⟩:=id r;unfold noteFrame;simp only [hf];refine wpAny_bind (wpAny_field e1 e4 e5 ?_);rw [if_neg (by decide)];exact qK hfr hl hf r h
theorem tU (hfr:A.frames=some (env::outer)) (hl:s.heap.FunFrames base (env::outer)) (hf:env.frame=some L) (r:Err s.heap ea T cls od .none)
   (h:∀ h' T',Err h' ea T' cls od (rawInt L)->Kept (frs (env::outer)) [ea,T] s.heap h'->s.heap.get? T'=none->Q () { s with heap:=h' }):wpAny M A (noteFrame (.ref ea) env) Q E s:=by
 have nT:=wO r.t hl;obtain ⟨⟨oe,vs,e1,e2,e3,e4,e5,e6⟩,⟨oT,ts,t1,t2,t3⟩,ne⟩:=id r;unfold noteFrame;simp only [hf];refine wpAny_bind (wpAny_field e1 e4 e5 ?_);rw [if_pos (by simp:(Value.ref T != Value.none)=true)];refine wpAny_bind (wpAny_field t1 t2 t3 ?_);rw [if_neg (by simp [rawInt])];have k1:Kept (frs (env::outer)) [ea,T] s.heap (s.heap.update T (Obj.mapFields (·.setIfInBounds 3 Value.none))):=ky t1 t2 (by simp);refine wpAny_bind (wpAny_setField t1 t2 (Array.getElem?_eq_some_iff.mp t3).1 ?_);refine qK hfr (hl.of_keeps fun b o e nf=>⟨o,?_,rfl⟩) hf (jF r.e ne) fun h' T' r' k2 n=>h h' T' r' (k1.trans (k2.mono (by simp))) ?_
 . by_cases z:b=T
   . subst z;rw [t1] at e;cases e;exact absurd t2 (nf ts)
   . rw [Heap.get?_update_other _ _ (Ne.symm z)];exact e
 . cases q:s.heap.get? T' with
   | none=>rfl
   | some o =>
     obtain ⟨o',z⟩:=k1.there T' o q;rw [z] at n;cases n
theorem Ap (hfr:A.frames=some (env::outer)) (hl:s.heap.FunFrames base (env::outer)) (hf:env.frame=some L) (r:fZ s.heap ea cls od .none)
   (h:∀ h' T',Err h' ea T' cls od .none->Kept (frs (env::outer)) [ea] s.heap h'->s.heap.get? T'=none->Q () { s with heap:=h' }):wpAny M A (leaving env (.ref ea)) Q E s:=by
 unfold leaving;refine wpAny_bind (Ch hfr hl hf r fun h1 T1 r1 k1 n1=>l4 (fs:=frs (env::outer)) (s:={ s with heap:=h1 }) r1 fun h2 r2 k2=>h h2 T1 r2 ⟨fun b o e f x=>k2.keep b o (k1.keep b o e f x) f ?_,fun b o e f x=>?_,fun b o e=>?_⟩ n1)
 . simp only [List.mem_singleton];rintro rfl;rw [n1] at e;cases e
 . obtain ⟨s1,e1⟩:=k1.slot b o e f x;obtain ⟨s2,e2⟩:=k2.slot b _ e1 f (by
     simp only [List.mem_singleton];rintro rfl;rw [n1] at e;cases e)
   exact ⟨s2,e2⟩
 . obtain ⟨o1,e1⟩:=k1.there b o e;exact k2.there b o1 e1
theorem CV (hfr:A.frames=some (env::outer)) (hl:s.heap.FunFrames base (env::outer)) (hf:env.frame=some L) (r:Err s.heap ea T cls od .none)
   (h:∀ h' T',Err h' ea T' cls od .none->Kept (frs (env::outer)) [ea,T] s.heap h'->s.heap.get? T'=none->Q () { s with heap:=h' }):wpAny M A (leaving env (.ref ea)) Q E s:=by
 unfold leaving;refine wpAny_bind (tU hfr hl hf r fun h1 T1 r1 k1 n1=>l4 (fs:=frs (env::outer)) (s:={ s with heap:=h1 }) r1 fun h2 r2 k2=>h h2 T1 r2 ⟨fun b o e f x=>k2.keep b o (k1.keep b o e f x) f ?_,fun b o e f x=>?_,fun b o e=>?_⟩ n1)
 . simp only [List.mem_singleton];rintro rfl;rw [n1] at e;cases e
 . obtain ⟨s1,e1⟩:=k1.slot b o e f x;obtain ⟨s2,e2⟩:=k2.slot b _ e1 f (by
     simp only [List.mem_singleton];rintro rfl;rw [n1] at e;cases e)
   exact ⟨s2,e2⟩
 . obtain ⟨o1,e1⟩:=k1.there b o e;exact k2.there b o1 e1
end
def CXe (P:Program) (w:World):CXT:=fun outer H s E e s'=>∃ (ea T:Addr) (cls:Value) (od:Option Addr) (H':Hp),e=.ref ea/\s'.os=s.os/\AllBare s'.gens/\Un (frs outer) [] H H' s.heap s'.heap/\HOk P w H' s'.heap /\
 H' ea=none/\H' T=none/\s.heap.get? ea=none/\s.heap.get? T=none/\Err s'.heap ea T cls od .none/\E cls od H'
theorem bp {P:Program} {w:World}:bG (CXe P w):=fun outer H s e s' h=>by
 obtain ⟨_,_,_,_,_,_,_,_,_,_,_,_,_,_,_,z⟩:=h;exact z
theorem m3 {P:Program} {w:World} {H:Hp} {h h':Heap} {fs xs:List Addr} (x:HOk P w H h) (k:Kept fs xs h h') (f:∀ b∈fs,H b=none) (u:∀ b∈xs,H b=none):HOk P w H h':=fun a o e=>by
 refine (x a o e).stay (fun b ob hb q=>k.keep b ob q ?_ ?_) (fun _ q=>q) fun _ _ q=>q
 . intro z;rcases hb with rfl|hb
   . rw [f _ z] at e;cases e
   . rw [f _ z] at hb;cases hb
 . intro z;rcases hb with rfl|hb
   . rw [u _ z] at e;cases e
   . rw [u _ z] at hb;cases hb
theorem qo {P:Program} {w:World} {H:Hp} {h:Heap} {b:Addr} (x:HOk P w H h) (n:h.get? b=none):H b=none:=by
 cases q:H b with
 | none=>rfl
 | some o =>
   have lt:=x.lt q;cases z:h.get? b with
   | some o'=>rw [z] at n;cases n
   | none =>
     exfalso
     have:=(x b o q);cases o with
     | lst xs=>obtain ⟨_,_,_,_,e⟩:=this;rw [n] at e;cases e
     | tup xs=>obtain ⟨_,_,_,ob,e,_⟩:=this;rw [n] at e;cases e
     | dK kvs=>obtain ⟨_,_,_,_,ob,_,_,e,_⟩:=this;rw [n] at e;cases e
     | dT kvs=>obtain ⟨_,_,_,_,ob,_,_,e,_⟩:=this;rw [n] at e;cases e
     | set S m=>obtain ⟨ob,_,_,_,e,_⟩:=this;rw [n] at e;cases e
     | ins C dx fs=>obtain ⟨_,_,_,e,_⟩:=this;rw [n] at e;cases e
     | own y=>obtain ⟨_,e⟩:=this;rw [n] at e;cases e
     | xd fs=>obtain ⟨_,⟨_,_,_,e,_⟩,_⟩:=this;rw [n] at e;cases e
     | rng lo hi=>obtain ⟨_,_,_,e⟩:=this;rw [n] at e;cases e
     | frz ob u=>obtain ⟨e,_⟩:=this;rw [n] at e;cases e
     | tbl ps=>have e:h.get? b=some _:=this;rw [n] at e;cases e
     | met f y=>have e:h.get? b=some _:=this;rw [n] at e;cases e
     | ext φ=>obtain ⟨_,⟨_,e⟩,_⟩:=this;rw [n] at e;cases e
section
variable {P:Program} {w:World} {K:PySem.W.Frag} {mg:Str->Option Value} {base:Heap} {N:List Str} {qual:Str} {scope:Scope} {f:Addr} {cd:Value} {A:Around} {outer:List Env} {s:Shared} {H:Hp} {E:XK}
theorem qm {CX:CXT} {pins:List (Addr × Obj)} {σ:St} {H':Hp} {s':Shared} {h':Heap} {xs:List Addr} (J:Inv (ig CX P w K mg base N qual scope f cd A outer s H E) pins σ H' s') (k:Kept (frs (envOfC qual scope s.heap.objs.size f cd::outer)) xs s'.heap h') (nx:∀ b∈xs,s.heap.get? b=none) :
   Un (frs outer) [] H H' s.heap h':=by
 have b0:Un (frs outer) [] H H' s.heap s'.heap:=J.base;have nl:∀ b o,s.heap.get? b=some o->b ∉ xs:=fun b o e z=>by rw [nx b z] at e;cases e
 have nf:∀ b o,s.heap.get? b=some o->b ∉ frs outer->b ∉ frs (envOfC qual scope s.heap.objs.size f cd::outer):=fun b o e z m=>by
   unfold frs at m z;rw [List.filterMap_cons] at m;have:(envOfC qual scope s.heap.objs.size f cd).frame=some s.heap.objs.size:=rfl;rw [this] at m;rcases List.mem_cons.mp m with m|m
   . exact absurd (Heap.lt_size e) (by rw [m];exact Nat.lt_irrefl _)
   . exact z m
 refine ⟨fun b o e n hf hx=>k.keep b o (b0.keep b o e n hf hx) (nf b o e hf) (nl b o e),fun b o e n hf hx=>?_,b0.free,fun b o e hx=>?_,b0.tups,b0.frzs,b0.tbls⟩
 . obtain ⟨sl,e1⟩:=b0.slot b o e n hf hx;by_cases m:b∈frs (envOfC qual scope s.heap.objs.size f cd::outer)
   . obtain ⟨s2,e2⟩:=k.slot b _ e1 m (nl b o e);exact ⟨s2,e2⟩
   . exact ⟨sl,k.keep b _ e1 m (nl b o e)⟩
 . obtain ⟨o1,e1⟩:=b0.there b o e hx;exact k.there b o1 e1
theorem jL {CX:CXT} {pins:List (Addr × Obj)} {σ:St} {H':Hp} {s':Shared} (J:Inv (ig CX P w K mg base N qual scope f cd A outer s H E) pins σ H' s') {b:Addr} (n:s'.heap.get? b=none):s.heap.get? b=none:=by
 cases q:s.heap.get? b with
 | none=>rfl
 | some o =>
   have b0:Un (frs outer) [] H H' s.heap s'.heap:=J.base;obtain ⟨o',e⟩:=b0.there b o q (by simp);rw [n] at e;cases e
theorem yU:sB (CXe P w) (ig (CXe P w) P w K mg base N qual scope f cd A outer s H E) E:=by
 intro pins σ H1 s1 e s' I h;obtain ⟨ea,T,cls,od,H',rfl,os,bare,un,hok,n1,n2,f1,f2,er,q⟩:=h;have J:=I.call' (ch:=[]) os un hok bare (by simp);refine CV (base:=base) J.ok.frames J.stack rfl er fun h' T' er' k nT=>?_;have fr:∀ b∈frs (envOfC qual scope s.heap.objs.size f cd::outer),H' b=none:=J.stkFree;refine ⟨ea,T',cls,od,H',rfl,J.os,J.bare,qm J k ?_,m3 hok k fr ?_,n1,qo hok nT,jL I f1,jL J nT,er',q⟩
 . intro b hb;simp only [List.mem_cons,List.not_mem_nil,or_false] at hb;rcases hb with rfl|rfl
   . exact jL I f1
   . exact jL I f2
 . intro b hb;simp only [List.mem_cons,List.not_mem_nil,or_false] at hb;rcases hb with rfl|rfl
   . exact n1
   . exact n2
end
section
variable {P:Program} {w:World} {K:PySem.W.Frag} {mg:Str->Option Value} {base:Heap} {N:List Str} {qual:Str} {scope:Scope} {f:Addr} {cd:Value} {A:Around} {outer:List Env} {s:Shared} {H:Hp} {E:XK}
end
end L2
set_option Elab.async false
set_option linter.all false
set_option maxRecDepth 100000
namespace L2
open PySem PySem.Spec PyProof.Rows
def Es (C:Addr) (E:XK) (t:TA):TS:=fun _ σ H=>t σ H fun vs H1=>vs.length<=sizeLine/\E (.ref C) none H1
section
variable {X:Cx} {x:Str} {np cpos pos:Pos} {e0:Expr} {es:List Expr} {t:TA} {C:Addr} {E:XK}
end
def XP (CX:CXT) (X:Cx) (pins:List (Addr × Obj)) (σ:St) (E:XK) (e:Value) (s':Shared):Prop:=∃ H s,Inv X pins σ H s/\CX X.stack H s E e s'
def PEx (CX:CXT) (X:Cx) (e:Expr) (t:XK->TE):Prop :=
 ∀ (E:XK) (pins:List (Addr × Obj)) (s:Shared) (σ:St) (H:Hp) (Q:VK),Inv X pins σ H s->t E σ H Q->wpAny (model X.prog X.w) X.A (eval e X.env) (EP X pins σ Q) (XP CX X pins σ E) s
abbrev XS (CX:CXT) (X:Cx) (pins:List (Addr × Obj)) (EK:St->XK) (e:Value) (s':Shared):Prop:=∃ σ,XP CX X pins σ (EK σ) e s'
def PSx (CX:CXT) (X:Cx) (st:Stmt) (t:(St->XK)->TS):Prop :=
 ∀ (EK:St->XK) (pins:List (Addr × Obj)) (s:Shared) (σ:St) (H:Hp) (D:Ends),Inv X pins σ H s->t EK D σ H->wpAny (model X.prog X.w) X.A (exec st X.env) (SP X pins D) (XS CX X pins EK) s
def zv (CX:CXT) (X:Cx) (st:List Stmt) (t:(St->XK)->TS):Prop :=
 ∀ (EK:St->XK) (pins:List (Addr × Obj)) (s:Shared) (σ:St) (H:Hp) (D:Ends),Inv X pins σ H s->t EK D σ H->wpAny (model X.prog X.w) X.A (execs st X.env) (SP X pins D) (XS CX X pins EK) s
section
variable {CX:CXT} {X:Cx} {k:Nat} {f C:Addr} {fd:FuncData} {ps:List Str} {sp:Sp} {dvs:List V} {ds:List Value} {x:Str} {p pos:Pos} {e:Expr} {es:List Expr} {te:TE} {t:TA} {st:Stmt} {sts:List Stmt} {ts:TS} {tx ux:(St->XK)->TS} {ex:XK->TE}
theorem im (F:FnOk X.prog X.w X.K X.mg X.base CX k f fd ps sp) (hr:Room k X.A) (hg:Gl X x) (hm:X.mg x=some (.ref f)) (hk:PySem.W.keepIn X.K (.ref f)=true) (hb:Binds X.K fd ps ds) (hd:Vals dvs ds)
   (ha:PA X.nox (e::es) t) (hdb:(x == ("__debug__":Str))=false:=by decide) (he:starEach (e::es) X.env=(false,eval e X.env)::starEach es X.env:=by rfl) (hpl:(backTo pos (starEach es X.env)).any (·.1)=false:=by rfl) :
   PEx CX X (.Call (.Name x p) (e::es) [] pos) (fun E=>vD sp dvs E t):=by
 intro E pins s σ H Q I h;refine wpAny_Call_Name_kw (jJ I hg hm ?_ hdb);refine PySem.W.callWith_K (h₀:=X.base) I.ok.mod.kin hk (wpAny_mono (ha pos pins s σ H _ (I.wish _) h) (fun us s1 ⟨vs,H1,I1,r,q⟩=>⟨I1.unwish.kIn,?_⟩) fun _ _ z=>False.elim z) he hpl;have J:=I1.unwish;have r2:Vals (vs++dvs) (us++ds):=r.append hd;have hl:(us++ds).length=ps.length:=by rw [<- r2.length];exact F.len _ _ _ _ q
 refine wpAny_call (codeAny_mono (F.run X.A X.stack s1 H1 ⟨us,[]⟩ (us++ds) (vs++dvs) Q E hr J.env0 (hb s1 us J.kIn hl) r2 q) fun r s' hq=>?_);cases r with
 | error e=>exact ⟨H1,s1,J,hq⟩
 | ok fl =>
   cases fl with
   | ret u=>exact J.after hq
   | next=>exact False.elim hq
   | brk=>exact False.elim hq
   | cont=>exact False.elim hq
theorem qx (he:PEx CX X e ex) (hs:swapsWith e none pos.line X.env=pure false:=by rfl):PSx CX X (.Expr e pos) (fun EK D σ H=>ex (EK σ) σ H fun _ H1=>D.nx σ H1):=by
 intro EK pins s σ H D I h;exact wpAny_Expr_any (wpAny_mono (he (EK σ) pins s σ H _ I h) (fun v s1 ⟨x,H1,I1,r1,q1⟩=>⟨σ,H1,I1,q1⟩) fun e s' z=>⟨σ,z⟩) I.quiet hs
theorem Am {c:Expr} {a b:List Stmt} {tc:TT} (hc:PT X.nox c tc) (ha:zv CX X a tx) (hb:zv CX X b ux):PSx CX X (.If c a b pos) (fun EK=>zw tc (tx EK) (ux EK)):=by
 intro EK pins s σ H D I h;refine wpAny_If (wpAny_mono (hc pins s σ H _ (I.wish _) h) (fun d s1 ⟨H1,I1,q1⟩=>?_) fun _ _ z=>False.elim z);cases d with
 | true=>exact ha EK pins s1 σ H1 D I1.unwish q1
 | false=>exact hb EK pins s1 σ H1 D I1.unwish q1
theorem jS (h1:PSx CX X st tx):zv CX X [st] tx:=by
 intro EK pins s σ H D I h;refine wpAny_execs_cons (thn (h1 EK pins s σ H D I h) fun f s1 q=>?_);cases f with
 | next=>exact wpAny_execs_nil q
 | ret v=>exact q
 | brk=>exact q
 | cont=>exact q
end
end L2
set_option Elab.async false
set_option linter.all false
set_option maxRecDepth 100000
namespace L2
open PySem PySem.Spec PyProof.Rows
abbrev Cx.held (X:Cx) (e:Value):Cx:={ X with A:=X.A.mark (some e),calm:=false }
theorem Cx.Ok.held {X:Cx} (ok:X.Ok) (e:Value):(X.held e).Ok :=
 ⟨ok.mod,ok.kind,ok.glob,ok.blt,ok.above,ok.inj,ok.has,ok.cab,(fun z=>nomatch z),ok.frames,ok.stk,ok.exf,ok.bs,ok.bsz,ok.noex,ok.exfs,ok.funs,ok.frf⟩
theorem Cx.Ok.unheld {X:Cx} {e:Value} (ok:(X.held e).Ok) (hd:X.calm=true->X.A.handled=none):X.Ok :=
 ⟨ok.mod,ok.kind,ok.glob,ok.blt,ok.above,ok.inj,ok.has,ok.cab,hd,ok.frames,ok.stk,ok.exf,ok.bs,ok.bsz,ok.noex,ok.exfs,ok.funs,ok.frf⟩
section
variable {X:Cx} {pins:List (Addr × Obj)} {σ:St} {H:Hp} {s:Shared}
theorem Inv.held (I:Inv X pins σ H s) (e:Value):Inv (X.held e) pins σ H s:=⟨I.ok.held e,I.os,I.bare,I.base,I.loc,I.cell,I.free,I.freeC,I.pin,I.hok,I.len⟩
theorem Inv.unheld {e:Value} (I:Inv (X.held e) pins σ H s) (hd:X.calm=true->X.A.handled=none):Inv X pins σ H s:=⟨I.ok.unheld hd,I.os,I.bare,I.base,I.loc,I.cell,I.free,I.freeC,I.pin,I.hok,I.len⟩
theorem Inv.moved {xs:List Addr} {h':Heap} {tk:Nat} (I:Inv X pins σ H s) (k:Kept (frs X.stack) xs s.heap h') (nx:∀ b∈xs,H b=none/\X.s₀.heap.get? b=none/\b≠X.env.locals/\(∀ x c,X.env.cells.lookup x=some c->c≠b)/\∀ p∈X.pn++pins,p.1≠b) :
   Inv X pins σ H { s with heap:=h',toks:=tk }:=by
 have old:∀ b o,X.s₀.heap.get? b=some o->b ∉ xs:=fun b o e z=>by rw [(nx b z).2.1] at e;cases e
 have nel:∀ b o,X.s₀.heap.get? b=some o->b≠X.env.locals:=fun b o e z=>absurd (Nat.lt_of_lt_of_le (Heap.lt_size e) I.ok.above) (by rw [z];exact Nat.lt_irrefl _);have out:∀ b,b≠X.env.locals->b ∉ X.fs->b ∉ frs X.stack:=fun b h1 h2 z=>(List.mem_cons.mp (I.stkSub b z)).elim h1 h2;have any:∀ b o,s.heap.get? b=some o->b ∉ xs->∃ sl,h'.get? b=some { o with slots:=sl }:=fun b o e z=>by
   by_cases f:b∈frs X.stack
   . exact k.slot b o e f z
   . exact ⟨o.slots,k.keep b o e f z⟩
 have cells:∀ x c v,X.env.cells.lookup x=some c->s.heap.IsCell c v->h'.IsCell c v:=fun x c v e ⟨o,ho,hd⟩=>by
   obtain ⟨sl,q⟩:=any c o ho fun z=>(nx c z).2.2.2.1 x c e rfl;exact ⟨_,q,hd⟩
 refine ⟨I.ok,I.os,I.bare,⟨fun b o e n hf hx=>?_,fun b o e n hf hx=>?_,I.base.free,fun b o e hx=>?_,I.base.tups,I.base.frzs,I.base.tbls⟩,?_,fun x c e=>?_,I.free,I.freeC,fun p hp=>?_,m3 I.hok k I.stkFree fun b hb=>(nx b hb).1,I.len⟩
 . exact k.keep b o (I.base.keep b o e n hf hx) (out b (nel b o e) hf) (old b o e)
 . obtain ⟨sl,e1⟩:=I.base.slot b o e n hf hx;obtain ⟨s2,e2⟩:=any b _ e1 (old b o e);exact ⟨s2,e2⟩
 . obtain ⟨o1,e1⟩:=I.base.there b o e hx;exact k.there b o1 e1
 . obtain ⟨m,⟨o,es,ep,ho,r⟩,l⟩:=I.loc;obtain ⟨sl,e1⟩:=any _ o ho fun z=>(nx _ z).2.2.1 rfl;refine ⟨m,⟨_,es,ep,e1,r⟩,fun i x v h1 h2 h3=>?_⟩;obtain ⟨u,r1,l1⟩:=l i x v h1 h2 h3;refine ⟨u,r1,?_⟩;rcases l1 with l1|⟨k1,c,e,z⟩
   . exact .inl l1
   . exact .inr ⟨k1,c,e,cells x c _ e z⟩
 . obtain ⟨v,z⟩:=I.cell x c e;exact ⟨v,cells x c v e z⟩
 . obtain ⟨e,n,ne,nf,d⟩:=I.pin p hp;exact ⟨k.keep p.1 p.2 e (out p.1 ne nf) fun z=>(nx p.1 z).2.2.2.2 p hp rfl,n,ne,nf,d⟩
theorem Inv.young (I:Inv X pins σ H s) {b:Addr} (n:s.heap.get? b=none):X.s₀.heap.get? b=none\/b∈X.ex:=by
 by_cases z:b∈X.ex
 . exact .inr z
 . refine .inl ?_;cases q:X.s₀.heap.get? b with
   | none=>rfl
   | some o =>
     obtain ⟨o',e⟩:=I.base.there b o q z;rw [n] at e;cases e
theorem Inv.apart (I:Inv X pins σ H s) {b:Addr} (n:s.heap.get? b=none):b≠X.env.locals/\(∀ x c,X.env.cells.lookup x=some c->c≠b)/\∀ p∈X.pn++pins,p.1≠b:=by
 refine ⟨?_,fun x c e z=>?_,fun p hp z=>?_⟩
 . rintro rfl;obtain ⟨m,⟨o,es,ep,ho,r⟩,_⟩:=I.loc;rw [n] at ho;cases ho
 . obtain ⟨v,o,ho,hd⟩:=I.cell x c e;rw [z,n] at ho;cases ho
 . obtain ⟨e,_⟩:=I.pin p hp;rw [z,n] at e;cases e
end
section
variable {K:PySem.W.Frag} {C C':Addr} {x:Addr} {ox:Obj} {od:Option Obj} {M:Model} {A:Around} {E:Value->Shared->Prop} {s:Shared} {b:Bool} {Q:Bool->Shared->Prop}
theorem wU (X:K.In s.heap) (hx:∃ o,s.heap.get? x=some o/\o.cls=.ref C) (c':XCls K C') (m:PySem.W.mroIn K C (.ref C')=some b) (h:Q b s):wpAny M A (excMatches (.ref x) (.ref C')) Q E s:=by
 obtain ⟨o,ho,hc⟩:=hx;obtain ⟨hh,g,dr,t,os⟩:=s;have L0:PySem.W.Looks M hh (typeOf (.ref x)) (.ref C):=hc ▸ (PySem.W.Looks.ld ho).andThen .now;have L1:=PySem.W.looks_mroIn (M:=M) X m;have L2:=PySem.W.looks_mroIn (M:=M) X c'.mb;have L3:=PySem.W.looks_typeIn (M:=M) X c'.ty;have L4:PySem.W.Looks M hh (isSubtype (.type "type") (.type "tuple")) false:=.of_pure tc_notTuple;obtain ⟨cd,e,_⟩:=PySem.W.any_some c'.hd;have L5:PySem.W.Looks M hh (isType (.ref C')) true:=by
   unfold PySem.W.clsIn at e;split at e
   . rename_i ho'
     intro A' Q' E' s' k q;unfold isType loadHead;exact wpAny_bind (wpAny_loadPart (k _ _ (X _ _ ho')) (wpAny_pure q))
   . cases e
 unfold excMatches isInstance isExcClass;cases b
 all_goals
   repeat lk
   exact h
end
end L2
set_option Elab.async false
set_option linter.all false
set_option maxRecDepth 100000
namespace L2
open PySem PySem.Spec PyProof.Rows
def ExO (ea:Addr) (cls:Value) (od:Option Addr):HO:=.ext fun h=>∃ oe vs,h.get? ea=some oe/\oe.cls=cls/\oe.dict=od/\oe.data=.fields vs/\vs[2]?=some .none
structure Loose (X:Cx) (pins:List (Addr × Obj)) (H:Hp) (b:Addr):Prop where
 un:H b=none
 new:X.s₀.heap.get? b=none
 loc:b≠X.env.locals
 cel:∀ x c,X.env.cells.lookup x=some c->c≠b
 pin:∀ p∈X.pn++pins,p.1≠b
theorem Loose.all {X:Cx} {pins:List (Addr × Obj)} {H:Hp} {b:Addr} (l:Loose X pins H b):H b=none/\X.s₀.heap.get? b=none/\b≠X.env.locals/\(∀ x c,X.env.cells.lookup x=some c->c≠b)/\∀ p∈X.pn++pins,p.1≠b:=⟨l.un,l.new,l.loc,l.cel,l.pin⟩
section
variable {X:Cx} {pins:List (Addr × Obj)} {σ:St} {H:Hp} {s:Shared}
theorem Inv.trackX {ea:Addr} {cls hd:Value} {od:Option Addr} (I:Inv X pins σ H s) (l:Loose X pins H ea) (e:fZ s.heap ea cls od hd):Inv X pins σ (upd H ea (ExO ea cls od)) s:=by
 obtain ⟨oe,vs,h1,h2,h3,h4,h5,h6⟩:=e;have ne:∀ b,b≠ea->upd H ea (ExO ea cls od) b=H b:=fun b z=>am z;have nt:∀ b u,H b=some u->upd H ea (ExO ea cls od) b=some u:=fun b u z=>by rw [ne b (au z l.un)];exact z
 refine ⟨I.ok,I.os,I.bare,⟨I.base.keep,I.base.slot,fun b o q n x=>?_,I.base.there,fun b xs q=>nt _ _ (I.base.tups b xs q),fun b o u q=>nt _ _ (I.base.frzs b o u q),fun b ps q=>?_⟩,I.loc,I.cell,?_,fun x c q=>?_,fun p hp=>?_,?_,I.len⟩
 . rw [ne b (by rintro rfl;rw [l.new] at q;cases q)];exact I.base.free b o q n x
 . obtain ⟨more,z⟩:=I.base.tbls b ps q;exact ⟨more,nt _ _ z⟩
 . rw [ne _ (Ne.symm l.loc)];exact I.free
 . rw [ne _ (l.cel x c q)];exact I.freeC x c q
 . obtain ⟨z1,z2,z3,z4,z5⟩:=I.pin p hp;exact ⟨z1,by rw [ne _ (l.pin p hp)];exact z2,z3,z4,z5⟩
 . intro b u q;by_cases z:b=ea
   . subst z;rw [af] at q;cases q;refine ⟨⟨oe,vs,h1,h2,h3,h4,h6⟩,⟨oe,h1⟩,?_⟩;rintro g1 g2 ⟨o,v,a1,a2⟩ kk;exact ⟨o,v,kk _ a1,a2⟩
   . rw [ne b z] at q;exact (I.hok b u q).stay (fun _ _ _ r=>r) (fun c r=>nt _ _ r) fun c xs r=>nt _ _ r
theorem k6 {M:Model} {A:Around} {E:Value->Shared->Prop} {n:Str} {i:Nat} {pos:Pos} {Q:Unit->Shared->Prop} (I:Inv X pins σ H s) (hN:X.N.Nodup) (hi:X.N[i]?=some n) (hl:X.env.scope.names.lookup n=some .local)
   (h:∀ s',Inv X pins (σ.set i none) H s'->Q () s'):wpAny M A (do bindName X.env n .none;unbindBehindTheSuite X.env n pos) Q E s:=by
 have hcls:(X.env.scope.kind == .class || (X.env.scope.kind == .module && X.env.locals != X.env.globals))=false:=by rw [I.ok.kind];rfl
 have hiσ:i<σ.length:=by rw [I.len];exact (List.getElem?_eq_some_iff.mp hi).1
 refine wpAny_bind (wpAny_bindName (l6 (v:=V.non) I hN hi (.inl hl) rfl (fun s1 I1=>?_) (.inr hl)));obtain ⟨m,hn,l⟩:=id I1.loc;have hv:m n=some Value.none:=by
   obtain ⟨u,r,q⟩:=l i n .non hi (by rw [List.getElem?_set_self hiσ]) (.inl hl);cases (show u=Value.none from r);rcases q with ⟨_,q⟩|⟨q,_⟩
   . exact q
   . rcases q with q|q <;> (have z:X.env.scope.names.lookup n=_:=q;rw [hl] at z;cases z)
 unfold unbindBehindTheSuite;refine wpAny_onRaise (wpAny_unbindName_local hl hn hv hcls fun h' u hn' hs=>h _ ?_);have cne:=I1.cne;have far:∀ b o,X.s₀.heap.get? b=some o->b≠X.env.locals:=fun b o e=>Nat.ne_of_lt (Nat.lt_of_lt_of_le (Heap.lt_size e) I1.ok.above);have at_:∀ b,b≠X.env.locals->h'.get? b=s1.heap.get? b:=fun b z=>hs.2 b z;refine ⟨I1.ok,I1.os,I1.bare,⟨fun b o e n hb hx=>?_,fun b o e n hb hx=>?_,I1.base.free,fun b o e hx=>?_,I1.base.tups,I1.base.frzs,I1.base.tbls⟩,⟨_,hn',fun j y v e1 e2 e3=>?_⟩,fun y c e=>?_,I1.free,I1.freeC,fun p hp=>?_,fun b ob e=>?_,by simpa using I.len⟩
 . exact (at_ b (far b o e)).trans (I1.base.keep b o e n hb hx)
 . obtain ⟨sl,q⟩:=I1.base.slot b o e n hb hx;exact ⟨sl,(at_ b (far b o e)).trans q⟩
 . obtain ⟨o',q⟩:=I1.base.there b o e hx;exact ⟨o',(at_ b (far b o e)).trans q⟩
 . by_cases hj:j=i
   . subst hj;rw [List.getElem?_set_self hiσ] at e2;cases e2
   . have hy:y≠n:=fun z=>hj (qk hN e1 (z ▸ hi));rw [List.getElem?_set_ne (Ne.symm hj)] at e2;obtain ⟨u',r',q⟩:=l j y v e1 (by rw [List.getElem?_set_ne (Ne.symm hj)];exact e2) e3;refine ⟨u',r',?_⟩;rcases q with ⟨k,z⟩|⟨k,c,z1,z2⟩
     . exact .inl ⟨k,by simp [hy,z]⟩
     . exact .inr ⟨k,c,z1,z2.sameBut hs (cne y c z1)⟩
 . obtain ⟨v,z⟩:=I1.cell y c e;exact ⟨v,z.sameBut hs (cne y c e)⟩
 . obtain ⟨z1,z2,z3,z4,z5⟩:=I1.pin p hp;exact ⟨(at_ p.1 z3).trans z1,z2,z3,z4,z5⟩
 . refine (I1.hok b ob e).stay (fun c w hc q=>(at_ c ?_).trans q) (fun _ q=>q) fun _ _ q=>q;rintro rfl;rcases hc with rfl|hc
   . rw [I1.free] at e;cases e
   . rw [I1.free] at hc;cases hc
end
abbrev TH:=Ends->St->Value->Option Addr->Hp->Prop
def PHs (X:Cx) (hs:List ExceptHandler) (th:TH):Prop:=∀ (pins:List (Addr × Obj)) (s:Shared) (σ:St) (H:Hp) (D:Ends) (ea T:Addr) (cls:Value) (od:Option Addr),Inv X pins σ H s->Err s.heap ea T cls od .none->Loose X pins H ea->Loose X pins H T ->
 th D σ cls od H->wpAny (model X.prog X.w) X.A (handleBy (.ref ea) X.env hs) (SP X pins D) X.xe s
def Ends.less (D:Ends) (i:Nat):Ends:={ nx:=fun σ H=>D.nx (σ.set i none) H,rt:=D.rt,bk:=fun σ H=>D.bk (σ.set i none) H,ct:=fun σ H=>D.ct (σ.set i none) H }
def Dr (K:PySem.W.Frag) (C':Addr) (i:Nat) (ts:TS) (tr:TH):TH:=fun D σ cls od H=>∃ C b,cls=.ref C/\PySem.W.mroIn K C (.ref C')=some b /\
 if b=true then ∀ ea,H ea=none->ts (D.less i) (σ.set i (some (.ref ea))) (upd H ea (ExO ea cls od)) else tr D σ cls od H
def tNoHand:TH:=fun _ _ _ _ _=>False
section
variable {X:Cx} {x n:Str} {np pos:Pos} {i:Nat} {C':Addr} {b0:Stmt} {suite:List Stmt} {ao:List ExceptHandler} {ts:TS} {tr:TH}
theorem EG:PHs X [] tNoHand:=fun _ _ _ _ _ _ _ _ _ _ _ _ _ h=>h.elim
theorem Fm (c':XCls X.K C') (hg:Gl X x) (hm:X.mg x=some (.ref C')) (hN:X.N.Nodup) (hi:X.N[i]?=some n) (hl:X.env.scope.names.lookup n=some .local) (hb:∀ e,PSs (X.held e).nox (b0::suite) ts) (hr:PHs X ao tr) (hdb:(x == ("__debug__":Str))=false:=by decide) :
   PHs X (.ExceptHandler (some (.Name x np)) (some n) (b0::suite) pos::ao) (Dr X.K C' i ts tr):=by
 intro pins s σ H D ea T cls od I er le lt h;obtain ⟨C,b,rfl,m,q⟩:=h;refine wpAny_handleBy_cons (codeAny_handlers_test (jJ (X:=X.held (.ref ea)) (I.held _) hg hm ?_ hdb)) (by intro z;cases z);obtain ⟨oe,vs,h1,h2,h3,h4,h5,h6⟩:=id er.e;refine wU I.kIn ⟨oe,h1,h2⟩ c' m ?_;cases b with
 | false=>exact hr pins s σ H D ea T _ od I er le lt (by simpa using q)
 | true =>
   rw [if_pos rfl] at q;refine codeAny_handlers_suite_as (l4 (fs:=frs X.stack) er fun h' er' k=>?_);have I1:Inv X pins σ H { s with heap:=h' }:=I.moved (tk:=s.toks) k fun b hb=>by rw [List.mem_singleton.mp hb];exact lt.all
   have I2:=(I1.trackX le er'.e).held (.ref ea);refine l6 (X:=X.held (.ref ea)) (v:=V.ref ea) I2 hN hi (.inl hl) rfl (fun s2 I3=>?_) (.inr hl);refine wpAny_mono (hb (.ref ea) pins s2 _ _ _ (I3.wish _) (q ea le.un)) (fun f s3 z=>?_) fun _ _ z=>False.elim z;have back:∀ {σ':St} {H':Hp},Inv (X.held (.ref ea)).nox pins σ' H' s3->Inv X pins σ' H' s3:=fun J=>J.unwish.unheld I.ok.hd;dsimp only;cases f with
   | next =>
     obtain ⟨σ',H',J,z⟩:=z;exact k6 (back J) hN hi hl fun s4 J4=>⟨_,H',J4,z⟩
   | brk =>
     obtain ⟨σ',H',J,z⟩:=z;exact k6 (back J) hN hi hl fun s4 J4=>⟨_,H',J4,z⟩
   | cont =>
     obtain ⟨σ',H',J,z⟩:=z;exact k6 (back J) hN hi hl fun s4 J4=>⟨_,H',J4,z⟩
   | ret u =>
     obtain ⟨v,σ',H',J,rv,z⟩:=z;exact k6 (back J) hN hi hl fun s4 J4=>⟨v,_,H',J4,rv,z⟩
def Ea (tb:(St->XK)->TS) (th:TH):TS:=fun D σ H=>tb (fun σ' cls od H'=>th D σ' cls od H') D σ H
theorem EF {body:List Stmt} {h0:ExceptHandler} {hs:List ExceptHandler} {tb:(St->XK)->TS} {th:TH} (hx:X.ex=[]) (hst:X.stack=X.env::X.outer) (hf:X.env.frame=some X.env.locals) (hb:zv (CXe X.prog X.w) X body tb) (hh:PHs X (h0::hs) th) :
   PS X (.Try body (h0::hs) [] [] pos) (Ea tb th):=by
 intro pins s σ H D I h;refine wpAny_Try_except (wpAny_mono (hb _ pins s σ H D I h) (fun f s1 q=>?_) fun e s' z=>?_)
 . cases f with
   | next=>exact wpAny_execs_nil q
   | ret v=>exact q
   | brk=>exact q
   | cont=>exact q
 . obtain ⟨σ1,H1,s1,I1,ea,T,cls,od,H',rfl,os,bare,un,hok,n1,n2,f1,f2,er,q⟩:=z;have J:=I1.call' (ch:=[]) os un hok bare (by simp);have fresh:∀ b,s1.heap.get? b=none->H' b=none->Loose X pins H' b:=fun b z u=>by
     obtain ⟨a1,a2,a3⟩:=I1.apart z;refine ⟨u,?_,a1,a2,a3⟩;rcases I1.young z with y|y
     . exact y
     . rw [hx] at y;cases y
   have le:=fresh ea f1 n1;have lt:=fresh T f2 n2;have fr:=J.ok.frames;have st:=J.stack;rw [hst] at fr st;refine tU fr st hf er fun h2 T2 er2 k2 nT2=>?_;rw [<- hst] at k2;have J2:Inv X pins σ1 H' { s' with heap:=h2 }:=J.moved (tk:=s'.toks) k2 fun b hb=>by
     simp only [List.mem_cons,List.not_mem_nil,or_false] at hb;rcases hb with rfl|rfl
     . exact le.all
     . exact lt.all
   have lt2:Loose X pins H' T2:=by
     obtain ⟨a1,a2,a3⟩:=J.apart nT2;refine ⟨qo hok nT2,?_,a1,a2,a3⟩;rcases J.young nT2 with y|y
     . exact y
     . rw [hx] at y;cases y
   refine l4 (fs:=frs X.stack) (s:={ s' with heap:=h2 }) er2 fun h3 er3 k3=>?_;have J3:Inv X pins σ1 H' { s' with heap:=h3 }:=J2.moved (tk:=s'.toks) k3 fun b hb=>by rw [List.mem_singleton.mp hb];exact lt2.all
   exact hh pins _ σ1 H' D ea T2 cls od J3 er3 le lt2 q
end
end L2
set_option Elab.async false
set_option linter.all false
set_option maxRecDepth 100000
namespace L2
open PySem PySem.Spec PyProof.Rows
section
variable {P:Program} {w:World} {K:PySem.W.Frag} {mg:Str->Option Value} {base:Heap}
end
section
variable {X:Cx} {k:Nat} {f:Addr} {fd:FuncData} {ps:List Str} {sp:Sp} {x:Str} {p pos:Pos} {e:Expr} {es:List Expr} {t:TA}
end
def zF (K:PySem.W.Frag) (C:Addr):V->Bool->Prop
 | .ref C',b=>XCls K C'/\PySem.W.mroIn K C (.ref C')=some b
 | .ty T,b=>PySem.W.kitMeta T=true/\PySem.W.mroIn K C (.type T)=some b
 | _,_=>False
def sF (H:Hp):Option Addr->Prop
 | none=>True
 | some d=>∃ fs,H d=some (.xd fs)
def zu (K:PySem.W.Frag):List V->Hp->VK->Prop:=fun xs H Q=>∃ ea C od cv b,xs=[.ref ea,cv]/\H ea=some (ExO ea (.ref C) od)/\sF H od/\XCls K C/\zF K C cv b/\Q (.bl b) H
theorem sY {K:PySem.W.Frag} {C:Addr} {cv:V} {u:Value} {b:Bool} (c:XCls K C) (r:RelV cv u) (h:zF K C cv b):PySem.W.kitOne K (.ref C) u=some b:=by
 unfold PySem.W.kitOne;cases cv with
 | ref C' =>
   cases (show u=Value.ref C' from r);obtain ⟨c',m⟩:=h;by_cases z:C=C'
   . subst z;rw [c.sf] at m;cases m;simp
   . have:(Value.ref C == Value.ref C')=false:=(by simpa using z);rw [this];simp only [Bool.false_eq_true,if_false];unfold PySem.W.kitCls;have q:((PySem.W.clsIn K C').isSome && PySem.W.typeIn K (.ref C') == some (.type "type"))=true:=by
       obtain ⟨cd,e,_⟩:=PySem.W.any_some c'.hd;rw [e,c'.ty];simp
     simp only [q,if_true];exact m
 | ty T =>
   cases (show u=Value.type T from r);obtain ⟨c',m⟩:=h;have:(Value.ref C == Value.type T)=false:=by simp
   rw [this];simp only [Bool.false_eq_true,if_false];unfold PySem.W.kitCls;simp only [c',if_true];exact m
 | non=>exact h.elim
 | bl=>exact h.elim
 | int=>exact h.elim
 | str=>exact h.elim
 | byt=>exact h.elim
 | flt=>exact h.elim
section
variable {X:Cx}
theorem wu {pins:List (Addr × Obj)} {σ:St} {H:Hp} {s:Shared} {ea C:Addr} {od:Option Addr} (I:Inv X pins σ H s) (h:H ea=some (ExO ea (.ref C) od)) (d:sF H od):∃ ox oo,PySem.W.InstAt s.heap ea ox C oo:=by
 obtain ⟨⟨oe,vs,h1,h2,h3,h4,_⟩,_⟩:=(show ObjOk X.prog X.w H s.heap ea (ExO ea (.ref C) od) from I.hok ea _ h);have nc:PySem.W.notCls oe=true:=by unfold PySem.W.notCls;rw [h4]
 cases od with
 | none=>exact ⟨oe,none,h1,h2,nc,by rw [h3];trivial⟩
 | some dx =>
   obtain ⟨fs,hd⟩:=d;obtain ⟨mA,⟨o,es,ep,e,_⟩,_⟩:=(show ObjOk X.prog X.w H s.heap dx (.xd fs) from I.hok dx _ hd);exact ⟨oe,some o,h1,h2,nc,by rw [h3];exact e⟩
theorem CB:dk X (.builtin "isinstance") (zu X.K):=by
 intro pins s σ H xs us Q I r h;obtain ⟨ea,C,od,cv,b,rfl,he,hd,c,hk,q⟩:=h;obtain ⟨u,cu,rfl,ru,rc⟩:=zm r;cases (show u=Value.ref ea from ru);obtain ⟨ox,oo,ia⟩:=wu I he hd;exact PySem.W.kia_one (wz (x:=ea) (ox:=ox) (od:=oo) c) I.kIn ia (sY c rc hk) (fun z=>nomatch z) fun tk=>⟨.bl b,H,I.tok tk,rfl,q⟩
end
def lr (cells:List (Str × Addr)):List (Str × NameKind)->List (Str × Addr)->List (Str × Addr)
 | [],acc=>acc
 | (n,k)::r,acc=>if k == .free then lr cells r ((n,(cells.lookup n).getD 0)::acc) else lr cells r acc
theorem yQ {scope:Scope} {env:Env} (h:∀ y∈scope.names,y.2=.free->(env.cells.lookup y.1).isSome=true):closureFor scope env=pure (lr env.cells scope.names []):=by
 have key:∀ (l:List (Str × NameKind)) (acc:List (Str × Addr)),(∀ y∈l,y.2=.free->(env.cells.lookup y.1).isSome=true) ->
     (forIn l acc fun (y:Str × NameKind) (c:List (Str × Addr))=>(if y.2 == NameKind.free then do let a <- cellOf env y.1;pure (ForInStep.yield ((y.1,a)::c)) else pure (ForInStep.yield c):Sem (ForInStep (List (Str × Addr)))))=(pure (lr env.cells l acc):Sem (List (Str × Addr))):=by
   intro l
   induction l with
   | nil=>intro acc _;rfl
   | cons y l ih =>
     obtain ⟨n,k⟩:=y;intro acc hh;have h1:=hh (n,k) List.mem_cons_self;have h2:∀ y∈l,y.2=.free->(env.cells.lookup y.1).isSome=true:=fun y hy=>hh y (List.mem_cons_of_mem _ hy);rw [List.forIn_cons];unfold lr;cases q:k == NameKind.free with
     | false =>
       simp only [Bool.false_eq_true,if_false,pure_bind];exact ih acc h2
     | true =>
       obtain ⟨c,hc⟩:=Option.isSome_iff_exists.mp (h1 (by simpa using q));dsimp only at hc;simp only [if_true,cellOf,hc,pure_bind,Option.getD_some];exact ih _ h2
 have:=key scope.names [] h;unfold closureFor;simp only [bind_pure];exact this
theorem qF {cells:List (Str × Addr)} {x:Str} {c:Addr}:∀ {l:List (Str × NameKind)} {acc:List (Str × Addr)},(∀ y∈l,y.2=.free->(cells.lookup y.1).isSome=true)->(∀ x c,acc.lookup x=some c->cells.lookup x=some c)->(lr cells l acc).lookup x=some c->cells.lookup x=some c
 | [],acc,_,h2,h3=>h2 x c h3
 | (n,k)::r,acc,h1,h2,h3=>by
   have h1':∀ y∈r,y.2=.free->(cells.lookup y.1).isSome=true:=fun y hy=>h1 y (List.mem_cons_of_mem _ hy);unfold lr at h3;cases q:k == NameKind.free with
   | false =>
     rw [q] at h3;exact qF h1' h2 (by simpa using h3)
   | true =>
     rw [q] at h3;simp only [if_true] at h3;obtain ⟨a,ha⟩:=Option.isSome_iff_exists.mp (h1 (n,k) List.mem_cons_self (by simpa using q));dsimp only at ha;rw [ha] at h3;refine qF h1' (fun y d hy=>?_) h3;rw [List.lookup_cons] at hy;cases z:y == n with
     | true =>
       rw [z] at hy;cases hy;rw [eq_of_beq z];exact ha
     | false =>
       rw [z] at hy;exact h2 y d hy
theorem qe {cells:List (Str × Addr)} {x:Str}:∀ {l:List (Str × NameKind)} {acc:List (Str × Addr)},((∃ c,acc.lookup x=some c)\/(x,NameKind.free)∈l)->∃ c,(lr cells l acc).lookup x=some c
 | [],acc,h=>by
   rcases h with h|h
   . exact h
   . cases h
 | (n,k)::r,acc,h=>by
   unfold lr;cases q:k == NameKind.free with
   | false =>
     simp only [Bool.false_eq_true,if_false];refine qe ?_;rcases h with h|h
     . exact .inl h
     . rcases List.mem_cons.mp h with z|z
       . cases z;simp at q
       . exact .inr z
   | true =>
     simp only [if_true];refine qe ?_;by_cases z:x=n
     . subst z;exact .inl ⟨(cells.lookup x).getD 0,by rw [List.lookup_cons];simp⟩
     . rcases h with ⟨c,h⟩|h
       . refine .inl ⟨c,?_⟩;rw [List.lookup_cons];have:(x == n)=false:=(by simpa using z);rw [this];exact h
       . rcases List.mem_cons.mp h with y|y
         . cases y;exact absurd rfl z
         . exact .inr y
theorem g7 {env:Env} {x:Str} {k:NameKind}:∀ {l:List (Str × NameKind)},l.lookup x=some k ->
   (l.map fun (n,k)=>if (k == NameKind.free && env.scope.kind == .function && env.kindOf n == some .cell) then (n,NameKind.cell) else (n,k)).lookup x=some (if (k == NameKind.free && env.scope.kind == .function && env.kindOf x == some .cell) then NameKind.cell else k)
 | [],h=>by simp at h
 | (n,j)::r,h=>by
   have ih:=@g7 env x k r;rw [List.map_cons];rw [List.lookup_cons] at h;cases z:x == n with
   | true =>
     rw [z] at h;cases h;have e:=eq_of_beq z;subst e;by_cases q:(k == NameKind.free && env.scope.kind == .function && env.kindOf x == some .cell)=true
     . simp only [q,if_true,List.lookup_cons,z]
     . simp only [q,if_false,List.lookup_cons,z,Bool.false_eq_true]
   | false =>
     rw [z] at h;dsimp only;by_cases q:(j == NameKind.free && env.scope.kind == .function && env.kindOf n == some .cell)=true
     . rw [if_pos q,List.lookup_cons,z];exact ih h
     . rw [if_neg q,List.lookup_cons,z];exact ih h
theorem DT {X:Cx} {Nc:List Str} {scope:Scope} (own:Nat) (js:List Nat) (hc:∀ y∈scope.names,y.2≠.cell) (hk:scope.kind=.function) (hn:∀ y∈scope.names,y.2=.local->scope.names.lookup y.1=some .local) (hl:Nc.length=own+js.length)
   (hf:∀ y∈scope.names,y.2=.free->X.env.scope.names.lookup y.1=some .cell) (hX:X.env.scope.kind=.function) (hcell:∀ x,X.env.scope.names.lookup x=some .cell->∃ c,X.env.cells.lookup x=some c)
   (hU:∀ i,i<js.length->∃ x j,Nc[own+i]?=some x/\js[i]?=some j/\X.N[j]?=some x/\scope.names.lookup x=some .free):CompTxt X Nc own js scope (lr X.env.cells scope.names []):=by
 have hs:∀ y∈scope.names,y.2=.free->(X.env.cells.lookup y.1).isSome=true:=fun y hy e=>by
   obtain ⟨c,q⟩:=hcell _ (hf y hy e);rw [q]
   rfl
 have free_cell:∀ x,scope.names.lookup x=some .free->X.env.scope.names.lookup x=some .cell:=fun x h=>hf (x,.free) (PySem.mem_of_lookup h) rfl;refine ⟨yQ hs,hk,hc,hn,fun x c h=>qF hs (fun x c z=>by simp at z) h,fun x h=>?_,hl,fun i x h=>?_⟩
 . cases q:scope.names.lookup x with
   | none =>
     exfalso
     have:(relabel scope X.env).names.lookup x=none:=by
       unfold relabel;dsimp only
       revert q
       generalize scope.names=l
       induction l with
       | nil=>intro _;rfl
       | cons y l ih =>
         obtain ⟨n,k⟩:=y;intro q;rw [List.lookup_cons] at q;cases z:x == n with
         | true=>rw [z] at q;cases q
         | false =>
           rw [z] at q;rw [List.map_cons];dsimp only;by_cases w:(k == NameKind.free && X.env.scope.kind == .function && X.env.kindOf n == some .cell)=true
           . rw [if_pos w,List.lookup_cons,z];exact ih q
           . rw [if_neg w,List.lookup_cons,z];exact ih q
     rw [this] at h;rcases h with h|h <;> cases h
   | some k =>
     have r:(relabel scope X.env).names.lookup x=some _:=g7 (env:=X.env) q;cases k with
     | free=>exact qe (.inr (PySem.mem_of_lookup q))
     | cell=>exact absurd rfl (hc _ (PySem.mem_of_lookup q))
     | _ =>
       rw [r] at h;simp at h
 . have hi:i<js.length:=by
     have:=(List.getElem?_eq_some_iff.mp h).1;omega
   obtain ⟨y,j,e1,e2,e3,e4⟩:=hU i hi;rw [h] at e1;cases e1;have fc:=free_cell x e4;refine ⟨j,e2,e3,fc,?_⟩;have r:(relabel scope X.env).names.lookup x=some _:=g7 (env:=X.env) e4;rw [r];have:X.env.kindOf x=some .cell:=fc;rw [this,hX]
   rfl
end L2
set_option Elab.async false
set_option linter.all false
set_option maxRecDepth 100000
namespace L2
open PySem PySem.Spec PyProof.Rows
section
variable {X:Cx}
end
theorem Dt {K:PySem.W.Frag} {C T:Addr} {c0:Value} {dd:Option Addr} {cd:ClassData} {sl:Array (Option Value)} (h:K.lookup C=some ⟨c0,dd,.cls cd,sl⟩) (m:cd.mro=.ref C::.ref T::bmV) (C':Addr):PySem.W.mroIn K C (.ref C')=some (decide (C'=C) || decide (C'=T)):=by
 unfold PySem.W.mroIn PySem.W.clsIn;rw [h];simp only [Option.bind_some,m,List.isEmpty_cons,Bool.false_eq_true,if_false]
 congr 1
 by_cases h1:C'=C
 . subst h1;simp
 . by_cases h2:C'=T
   . subst h2;simp
   . have a:(Value.ref C' == Value.ref C)=false:=(by simpa using h1);have b:(Value.ref C' == Value.ref T)=false:=(by simpa using h2);simp [List.contains_cons,a,b,h1,h2]
structure XErr (K:PySem.W.Frag) (T C:Addr):Prop where
 x:XCls K C
 mr:∀ C',PySem.W.mroIn K C (.ref C')=some (decide (C'=C) || decide (C'=T))
 mv:PySem.W.mroIn K C (.type "ValueError")=some true
theorem rG {K:PySem.W.Frag} {C:Addr} {c0:Value} {dd:Option Addr} {cd:ClassData} {sl:Array (Option Value)} {r:List Value} (h:K.lookup C=some ⟨c0,dd,.cls cd,sl⟩) (m:cd.mro=.ref C::r) {v:Value} (hv:(Value.ref C::r).contains v=true):PySem.W.mroIn K C v=some true:=by
 unfold PySem.W.mroIn PySem.W.clsIn;rw [h];simp only [Option.bind_some,m,List.isEmpty_cons,Bool.false_eq_true,if_false,hv]
section
variable {K:PySem.W.Frag} {T C:Addr} {c0:Value} {dd:Option Addr} {cd:ClassData} {sl:Array (Option Value)}
theorem yg {r:List Value} (h1:PySem.W.typeIn K (.ref C)=some (.type "type")) (h2:PySem.W.findIn K (.ref C) "__getattribute__"=some (some (.builtin "BaseException.__getattribute__"))) (h3:PySem.W.findIn K (.ref C) "__getattr__"=some none)
   (h4:PySem.W.findIn K (.ref C) "__class__"=some (some (.builtin "object.__class__"))) (h5:PySem.W.specialIn K (.builtin "object.__class__") "__get__"=some (some (.builtin "getset_descriptor.__get__"))) (h6:PySem.W.takesIn K (.builtin "object.__class__")=some true)
   (h7:PySem.W.hasDictIn K C=true) (h:K.lookup C=some ⟨c0,dd,.cls cd,sl⟩) (m:cd.mro=.ref C::r) (a:r.contains (.type "object")=true) (b:r.contains (.type "BaseException")=true):XCls K C :=
 ⟨h1,h2,h3,h4,h5,h6,rG h m (by rw [List.contains_cons,a,Bool.or_true]),rG h m (by rw [List.contains_cons,b,Bool.or_true]),h7,rG h m (by simp)⟩
structure XTop (K:PySem.W.Frag) (T:Addr):Prop where
 x:XCls K T
theorem Du (h1:PySem.W.typeIn K (.ref C)=some (.type "type")) (h2:PySem.W.findIn K (.ref C) "__getattribute__"=some (some (.builtin "BaseException.__getattribute__"))) (h3:PySem.W.findIn K (.ref C) "__getattr__"=some none)
   (h4:PySem.W.findIn K (.ref C) "__class__"=some (some (.builtin "object.__class__"))) (h5:PySem.W.specialIn K (.builtin "object.__class__") "__get__"=some (some (.builtin "getset_descriptor.__get__"))) (h6:PySem.W.takesIn K (.builtin "object.__class__")=some true)
   (h7:PySem.W.hasDictIn K C=true) (h:K.lookup C=some ⟨c0,dd,.cls cd,sl⟩) (m:cd.mro=.ref C::bmV):XTop K C:=⟨yg h1 h2 h3 h4 h5 h6 h7 h m (by decide +kernel) (by decide +kernel)⟩
theorem lX (h1:PySem.W.typeIn K (.ref C)=some (.type "type")) (h2:PySem.W.findIn K (.ref C) "__getattribute__"=some (some (.builtin "BaseException.__getattribute__"))) (h3:PySem.W.findIn K (.ref C) "__getattr__"=some none)
   (h4:PySem.W.findIn K (.ref C) "__class__"=some (some (.builtin "object.__class__"))) (h5:PySem.W.specialIn K (.builtin "object.__class__") "__get__"=some (some (.builtin "getset_descriptor.__get__"))) (h6:PySem.W.takesIn K (.builtin "object.__class__")=some true)
   (h7:PySem.W.hasDictIn K C=true) (h:K.lookup C=some ⟨c0,dd,.cls cd,sl⟩) (m:cd.mro=.ref C::.ref T::bmV):XErr K T C:=by
 have a:(Value.ref T::bmV).contains (.type "object")=true:=by rw [List.contains_cons];simp [bmV]
 have b:(Value.ref T::bmV).contains (.type "BaseException")=true:=by rw [List.contains_cons];simp [bmV]
 have c:(Value.ref T::bmV).contains (.type "ValueError")=true:=by rw [List.contains_cons];simp [bmV]
 exact ⟨yg h1 h2 h3 h4 h5 h6 h7 h m a b,Dt h m,rG h m (by rw [List.contains_cons,c,Bool.or_true])⟩
end
section
variable {P:Program} {w:World} {K:PySem.W.Frag} {mg:Str->Option Value} {base:Heap}
theorem Fun.okX {x qual:Str} {st:Stmt} {f:Addr} {fd:FuncData} {N ps:List Str} {k:Nat} {sp:Sp} (F:Fun K x qual st f fd) (S:FnScope N ps (aa st)) (len:∀ vs H Q E,sp vs H Q E->vs.length=ps.length)
   (hbody:∀ (cdv:Value) (A:Around) (outer:List Env) (s:Shared) (H:Hp) (vs:List V) (Q:VK) (E:XK),Room k (A.deeper (envOfC qual (aa st) s.heap.objs.size f cdv))->sp vs H Q E ->
     ∃ t,PSs (ig (CXe P w) P w K mg base N qual (aa st) f cdv A outer s H E) (aD st) t/\t { nx:=fun _ H'=>Q .non H',rt:=Q } (start N vs) H):FnOk P w K mg base (CXe P w) (k+1) f fd ps sp:=by
 obtain ⟨oc,od,kV,doc,pm,an,cdv,ct,osl,rfl,lk,hcd⟩:=F.ex;exact De lk hcd S len fun A outer s H vs Q E hr hsp=>hbody cdv A outer s H vs Q E hr hsp
end
theorem uU {C:Addr} {E:XK} {t:TA} {D:Ends} {σ:St} {H:Hp}:Es C E t D σ H=t σ H fun vs H1=>vs.length<=sizeLine/\E (.ref C) none H1:=rfl
theorem xS {tb:(St->XK)->TS} {th:TH} {D:Ends} {σ:St} {H:Hp}:Ea tb th D σ H=tb (fun σ' cls od H'=>th D σ' cls od H') D σ H:=rfl
theorem wd {K:PySem.W.Frag} {C':Addr} {i:Nat} {ts:TS} {tr:TH} {D:Ends} {σ:St} {cls:Value} {od:Option Addr} {H:Hp}:Dr K C' i ts tr D σ cls od H=∃ C b,cls=.ref C/\PySem.W.mroIn K C (.ref C')=some b /\
 if b=true then ∀ ea,H ea=none->ts (D.less i) (σ.set i (some (.ref ea))) (upd H ea (ExO ea cls od)) else tr D σ cls od H:=rfl
theorem nP:bootBuiltins "ValueError"=some (.type "ValueError"):=by decide +kernel
theorem pz {K:PySem.W.Frag} {H:Hp} {ea C C' Tl:Addr} {od:Option Addr} {Q:VK} (he:H ea=some (ExO ea (.ref C) od)) (hd:sF H od) (xe:XErr K Tl C) (x':XErr K Tl C') (ne:C'≠Tl) (q:Q (.bl (decide (C'=C))) H):zu K [.ref ea,.ref C'] H Q:=by
 refine ⟨ea,C,od,.ref C',decide (C'=C),rfl,he,hd,xe.x,⟨x'.x,?_⟩,q⟩;rw [xe.mr,decide_eq_false ne,Bool.or_false]
theorem xJ {K:PySem.W.Frag} {H:Hp} {ea C Tl:Addr} {od:Option Addr} {Q:VK} (he:H ea=some (ExO ea (.ref C) od)) (hd:sF H od) (xe:XErr K Tl C) (q:Q (.bl true) H):zu K [.ref ea,.ty "ValueError"] H Q :=
 ⟨ea,C,od,.ty "ValueError",true,rfl,he,hd,xe.x,⟨by decide +kernel,xe.mv⟩,q⟩
theorem Cs {H:Hp} {l b:Addr} {xs zs:List V} {Q:VK} (h1:H l=some (.lst xs)) (h2:H b=some (.lst zs)) (hz:xs.length+zs.length<=sizeLine) (q:∀ p,H p=none->Q (.ref p) (upd H p (.lst (xs++zs)))):rCat (.ref l) (.ref b) H Q:=⟨l,b,xs,zs,rfl,rfl,h1,h2,hz,q⟩
end L2
set_option Elab.async false
set_option linter.all false
set_option maxRecDepth 100000
namespace L2
open PySem PySem.Spec PyProof.Rows
theorem wA {M:Model} {A:Around} {E:Value->Shared->Prop} {s:Shared} {env:Env} {x:Str} {px:Pos} {v:Value} {Q:Unit->Shared->Prop} (h:wpAny M A (storeName env x v) Q E s):wpAny M A (assign (.Name x px) env v) Q E s:=by
 show wpAny M A (do standAt px;bindName env x v) Q E s;exact wpAny_bind (wpAny_standAt (wpAny_bindName h))
section
variable {X:Cx} {Nc:List Str} {own:Nat} {js:List Nat} {scope:Scope} {cl:List (Str × Addr)}
theorem rF {i:Nat} {x:Str} {px pos:Pos} {elt target iter:Expr} {ifs:List Expr} {cpos:Pos} {wi:TI} {g:TG} {tc:TT} {te:TE} (hN:X.N.Nodup) (hxi:X.N[i]?=some x) (hxl:X.env.scope.names.lookup x=some .local) (hc:X.calm=true) (T:CompTxt X Nc own js scope cl)
   (hi:PI X target iter wi) (hg:∀ C s₂ H₁ fp,PG (X.comp Nc scope cl C s₂ H₁ fp) target g) (ht:∀ C s₂ H₁ fp,PTs (X.comp Nc scope cl C s₂ H₁ fp) ifs tc)
   (he:∀ C s₂ H₁ fp,PE (X.comp Nc scope cl C s₂ H₁ fp) elt te) (hs:∀ x,foldedSetIterable iter X.env x=pure x:=by intro _;rfl)
   (hsw:swapsWith (.ListComp elt [⟨target,iter,ifs,0⟩] scope cpos) (some (.Name x px)) pos.line X.env=pure true:=by rfl) :
   PS X (.Assign [.Name x px] (.ListComp elt [⟨target,iter,ifs,0⟩] scope cpos) pos) (tM (rz own js wi g tc te) (pF i)):=by
 intro pins s σ H D I h;rw [exec_Assign_Name_used _ _ _ _ hsw];refine wpAny_bind (wpAny_standAt (wpAny_bind ?_));rw [arm_evalThenUse_ListComp];refine wpAny_bind ?_;refine wpAny_comprehension_free (use:=some (assign (.Name x px) X.env)) rfl hs T.clos T.kind T.names (thn (hi pins s σ H _ I h) fun v s1 h1=>thn h1 fun itv s2 h2=>?_);obtain ⟨it,fp,tn,J,H1,rfl,I1,Tn,st,f1,R⟩:=h2;have hfp:∀ b∈fp,b<s2.heap.objs.size:=fun b hb=>let ⟨o,e,_⟩:=Tn.obj _ _ st b hb;Heap.lt_size e;refine wpAny_newObj_type (wpAny_newFunctionEnv T.nocell (by intro y hy;simp at hy) (fun h₁ hns₁ hsb₁=>?_) T.kind);dsimp only at hns₁ hsb₁ ⊢;generalize hH2:s2.heap.push { cls:=.type "list",dict:=none,data:=.seq ([]:List Value).toArray }=H2 at hns₁ hsb₁ ⊢;have hC:H2.objs.size=s2.heap.objs.size+1:=by rw [<- hH2,Heap.size_push]
 have hDC:s2.heap.objs.size≠H2.objs.size:=by rw [hC];exact Nat.ne_of_lt (Nat.lt_succ_self _)
 have hCle:s2.heap.objs.size<=H2.objs.size:=by rw [hC];exact Nat.le_succ _
 have below:∀ b,b<s2.heap.objs.size->b≠H2.objs.size:=fun b hb=>by rw [hC];exact Nat.ne_of_lt (Nat.lt_succ_of_lt hb)
 have old:∀ b o,s2.heap.get? b=some o->h₁.get? b=some o:=fun b o e=>hsb₁.extBut b o (below b (Heap.lt_size e)) (Heap.get?_push_of_some _ (hH2 ▸ Heap.get?_push_of_some _ e));have hacc:∃ n,h₁.get? s2.heap.objs.size=some { cls:=.type "list",data:=.seq ([]:List Value).toArray n }:=⟨_,hsb₁.extBut _ _ hDC (Heap.get?_push_of_some _ (hH2 ▸ Heap.get?_push_size _ rfl))⟩;have st₁:tn 0 h₁:=Tn.keep _ _ _ st fun b _ o e=>old b o e;obtain ⟨W,⟨m0,w0⟩,turn⟩:=R s2.heap.objs.size I1.fresh;have Ic:=nA (t:=s2.toks+([]:List (Str × Value)).length) T I1 hCle (Nat.le_refl _) hDC f1 hfp old hns₁ hacc;generalize hXc:X.comp Nc scope cl H2.objs.size s2 H1 fp=Xc at Ic;have stat:∀ {H':Hp},(∀ b∈fp,H' b=none)->∀ b∈fp,gK Xc [] H' b:=fun {H'} hn b hb=>by
   subst hXc;exact ⟨hn b hb,below b (hfp b hb),(lQ T I1 hCle f1 hfp).exfs b hb,.inl hb,fun x c e=>(f1 b hb).2.2.2.2.1 x c (T.cells x c e),fun p hp=>by cases hp⟩
 have fr0:∀ b∈fp,upd H1 s2.heap.objs.size (.lst []) b=none:=fun b hb=>by
   rw [am (Nat.ne_of_lt (hfp b hb))];exact (f1 b hb).1
 have calmc:Xc.calm=true:=by subst hXc;exact hc
 have loop:∀ s₃:Shared,s₃={ s2 with heap:=h₁,toks:=s2.toks+([]:List (Str × Value)).length } ->
     codeAny (model X.prog X.w) X.A (.compLoop (.ListComp elt [⟨target,iter,ifs,0⟩] scope cpos) 0 (.ref it) (.ref s2.heap.objs.size) (compEnvC scope cl H2.objs.size X.env))
       (compPost (model X.prog X.w) X.A X.xe (some (assign (.Name x px) X.env)) (fun _ s'=>wpAny (model X.prog X.w) X.A (pure ()) (fun _ s''=>wpAny (model X.prog X.w) X.A (pure Flow.next) (SP X pins D) X.xe s'') X.xe s') (.ref s2.heap.objs.size) H2.objs.size) s₃:=by
   rintro s₃ rfl;refine p8 (fun n s'=>∃ i ys σ' H',Inv Xc [] σ' H' s'/\tn i s'.heap/\(∀ b∈fp,H' b=none)/\W i n ys σ' H') ?_ m0 ⟨0,[],_,_,Ic,st₁,fr0,w0⟩;rintro n s3 ⟨i,ys,σ3,H3,I3,st3,fr3,w3⟩;rcases turn i n ys σ3 H3 w3 with ⟨stop,q⟩|⟨go,step⟩
   . subst hXc;refine thn (Tn.done (X.comp Nc scope cl H2.objs.size s2 H1 fp) rfl rfl rfl hc i [] s3 σ3 H3 _ I3 (stat fr3) st3 stop) fun r s4 ⟨hr,I4⟩=>?_;subst hr;obtain ⟨m4,hn4,_⟩:=id I4.loc;have J:=iZ I1 hCle f1 I4 (h':=s4.heap) (Heap.SameBut.refl _ _);have cl0:H2.objs.size≠X.env.locals:=Nat.ne_of_gt (Nat.lt_of_lt_of_le I1.lt hCle);have cy:X.s₀.heap.objs.size<=H2.objs.size:=Nat.le_trans I1.sz hCle;have cc:∀ y c,X.env.cells.lookup y=some c->c≠H2.objs.size:=fun y c e=>by
       obtain ⟨v',o',ho',_⟩:=I1.cell y c e;exact Nat.ne_of_lt (Nat.lt_of_lt_of_le (Heap.lt_size ho') hCle)
     have cp:∀ p∈X.pn++pins,p.1≠H2.objs.size:=fun p hp=>by
       obtain ⟨ho',_⟩:=I1.pin p hp;exact Nat.ne_of_lt (Nat.lt_of_lt_of_le (Heap.lt_size ho') hCle)
     refine wA (oV (v:=.ref s2.heap.objs.size) J hN hxi (.inl hxl) rfl (fun s5 I5 ⟨ad,sb,had⟩=>?_) (.inr hxl));have nad:H2.objs.size≠ad:=by
       rcases had with rfl|had
       . exact cl0
       . exact (cc _ _ had).symm
     obtain ⟨oo,es,ep,e1,e2⟩:=hn4;refine ⟨m4,⟨oo,es,ep,(sb.2 _ nad).trans e1,e2⟩,fun h' hs'=>wpAny_pure (wpAny_pure ⟨_,H3,?_,q⟩)⟩;exact I5.turned (it:=H2.objs.size) (t':=s5.toks) (fun b o n e=>hs'.extBut b o n e) I4.free cl0 (.inr cy) cc cp
   . subst hXc;refine thn (Tn.item (X.comp Nc scope cl H2.objs.size s2 H1 fp) rfl rfl rfl hc i [] s3 σ3 H3 _ I3 (stat fr3) st3 go) fun r s4 ⟨u,hr,h4⟩=>?_;subst hr;refine thn h4 fun _ s5 ⟨x,H5,I5,r5,y5,st5,fr5⟩=>?_;have I5':=I5.pinned (stat fr5) (Tn.obj _ _ st5);have back:∀ {σ7:St} {H7:Hp} {s7:Shared},Inv (X.comp Nc scope cl H2.objs.size s2 H1 fp) ([]++dW fp s5.heap) σ7 H7 s7->Inv (X.comp Nc scope cl H2.objs.size s2 H1 fp) [] σ7 H7 s7/\tn (i+1) s7.heap/\∀ b∈fp,H7 b=none:=fun {σ7 H7 s7} I7=>by
       refine ⟨I7.unpinned,Tn.keep _ _ _ st5 fun b hb o e=>(I7.pin (b,o) (List.mem_append_right _ (List.mem_append_right _ (b9 hb e)))).1,fun b hb=>?_⟩;obtain ⟨o,e,d⟩:=Tn.obj _ _ st5 b hb;exact (I7.pin (b,o) (List.mem_append_right _ (List.mem_append_right _ (b9 hb e)))).2.1
     refine thn (hg _ _ _ _ _ s5 σ3 H5 x u _ I5' r5 (step x H5 y5)) fun _ s6 ⟨σ6,H6,I6,q6⟩=>?_;refine oG (ht _ _ _ _ _ s6 σ6 H6 _ I6 q6) fun ok s7 H7 I7 q7=>?_;cases ok with
     | false =>
       rw [if_neg Bool.false_ne_true] at q7 ⊢;obtain ⟨m',hm,w7⟩:=q7;obtain ⟨J1,J2,J3⟩:=back I7;exact ⟨m',hm,i+1,ys,σ6,H7,J1,J2,J3,w7⟩
     | true =>
       rw [if_pos rfl] at q7 ⊢;refine bc (he _ _ _ _ _ s7 σ6 H7 _ I7 q7) fun y s8 yv H8 I8 r8 ⟨hp8,hl8,m',hm,w8⟩=>?_;refine thn (c7 _ s8 σ6 H8 (.ref s2.heap.objs.size) [yv] _ [y] (fun v' H'=>W (i+1) m' (ys++[yv]) σ6 H') I8 rfl (.cons r8 .nil) ⟨_,ys,yv,rfl,rfl,hp8,hl8,w8⟩) fun v9 s9 ⟨_,H9,I9,_,w9⟩=>?_;obtain ⟨J1,J2,J3⟩:=back I9;exact ⟨m',hm,i+1,ys++[yv],σ6,H9,J1,J2,J3,w9⟩
 exact codeAny_compStart_list (loop _ rfl) (Tn.self _ 0 _ _ _ st₁ (loop _ rfl))
end
end L2
set_option Elab.async false
set_option linter.all false
set_option maxRecDepth 100000
namespace L2
open PySem PySem.Spec PyProof.Rows
theorem jO {K:PySem.W.Frag} {H:Hp}:∀ ns:List Int,DeepAll K H (ns.map V.int) (ns.map PyData.int)
 | []=>.nil
 | n::ns=>.cons (.int n) (jO ns)
theorem t9 {K:PySem.W.Frag} {H:Hp} {l:Addr} {ns:List Int} (h:H l=some (.lst (ns.map V.int))):Deep K H (.ref l) (.list (ns.map PyData.int)):=.lst (SqL.of h) (jO ns)
theorem pT:∀ ns:List Int,PyData.eqvAll (ns.map PyData.int) (ns.map PyData.int)=true
 | []=>by simp [PyData.eqvAll]
 | n::ns=>by
   simp only [List.map_cons,PyData.eqvAll];rw [pT ns];simp [PyData.eqv]
theorem ju:∀ ns:List Int,PyData.depthAll (ns.map PyData.int)<=1
 | []=>by simp [PyData.depthAll]
 | n::ns=>by
   simp only [List.map_cons,PyData.depthAll];have:=ju ns;have:(PyData.int n).depth<=1:=by simp [PyData.depth]
   omega
theorem yT (ns:List Int):(PyData.list (ns.map PyData.int)).depth<=40:=by
 simp only [PyData.depth];have:=ju ns;omega
end L2
set_option Elab.async false
set_option linter.all false
set_option maxRecDepth 100000
namespace Pb
open L2 PySem
variable {m:Int} {rs:List Road} {r:Int} {par:Int->Int} {dep:Int->Nat}
end Pb
set_option Elab.async false
set_option linter.all false
set_option maxRecDepth 100000
namespace L2
open PySem PySem.Spec PyProof.Rows
def Itv (K:PySem.W.Frag) (a:Addr) (n:Nat):It :=
 ⟨fun i H=>i<n/\∃ xs x,SqL K H a xs/\xs[n - 1 - i]?=some x,fun i H x H'=>H'=H/\∀ xs,SqL K H a xs->xs[n - 1 - i]?=some x,fun i H=>n<=i⟩
def Eh (K:PySem.W.Frag) (tl:TE):TI:=fun σ H R=>tl σ H fun x H1=>∃ a xs,x=.ref a/\SqL K H1 a xs/\R (Itv K a xs.length) H1
section
variable {X:Cx} {tg e:Expr} {te:TE} {p2 pos:Pos}
end
end L2
set_option Elab.async false
set_option linter.all false
set_option maxRecDepth 100000
namespace L2
open PySem PySem.Spec PyProof.Rows
def Ag (te:TE):TE:=fun σ H Q=>te σ H fun x H1=>∃ i,x=.int i/\0<=i/\i<=100000/\∀ l,H1 l=none->Q (.ref l) (upd H1 l (.lst ((Pb.below i.toNat).map V.int)))
section
variable {X:Cx} {e:Expr} {te:TE} {p1 p2 pos pos2:Pos}
end
end L2
set_option Elab.async false
set_option linter.all false
set_option maxRecDepth 100000
namespace L2
open PySem PySem.Spec PyProof.Rows PySem.W
section
variable {X:Cx}
end
end L2
set_option Elab.async false
set_option linter.all false
set_option maxRecDepth 100000
namespace L2
open PySem PySem.Spec PyProof.Rows
section
variable {X:Cx}
end
theorem Fz {H:Hp} {l:Addr} {xs:List V} {i:Int} {v:V} {Q:Hp->Prop} (h:H l=some (.lst xs)) (i0:0<=i) (i1:i<xs.length) (q:Q (upd H l (.lst (xs.set i.toNat v)))):rSetL (.ref l) (.int i) v H Q :=
 ⟨l,xs,i,i.toNat,rfl,rfl,h,by unfold ixN;rw [if_pos i0,if_pos (by omega)],q⟩
end L2
set_option Elab.async false
set_option linter.all false
set_option maxRecDepth 100000
namespace Pb
open L2
section
variable {m:Int} {rs:List Road} {r:Int} {par:Int->Int} {dep:Int->Nat}
variable {held:Int->Int} {con:Int->Int->Int}
end
end Pb
set_option Elab.async false
set_option linter.all false
set_option maxRecDepth 100000
namespace Pb
open L2
section
variable {m:Int} {rs:List Road} {r:Int} {par:Int->Int} {dep:Int->Nat} {held:Int->Int}
end
section
open PySem
end
end Pb
set_option Elab.async false
set_option linter.all false
set_option maxRecDepth 100000
namespace L2
open PySem PySem.Spec PyProof.Rows
def tF (xs:List Int) (lo hi:Option Int):List Int:=(xs.drop (HT.sIx xs.length 0 lo)).take (HT.sIx xs.length xs.length hi - HT.sIx xs.length 0 lo)
theorem B0 (xs:List Int) (lo hi:Option Int):kh (xs.map V.int) lo hi=(tF xs lo hi).map V.int:=by
 unfold kh tF;rw [List.length_map,List.map_take,List.map_drop]
theorem CG (xs:List Int) (lo hi:Option Int):(tF xs lo hi).length<=xs.length:=by
 unfold tF;rw [List.length_take,List.length_drop];omega
theorem slI {K:PySem.W.Frag} {H:Hp} {a:Addr} {xs:List Int} {lo hi:Option Int} {Q:VK} (h:SqL K H a (xs.map V.int)) (q:∀ p,H p=none->Q (.ref p) (upd H p (.lst ((tF xs lo hi).map V.int)))):Eg K (.ref a) lo hi H Q :=
 ⟨a,_,rfl,h,fun p hp=>by rw [B0];exact q p hp⟩
theorem vW:∀ xs ys:List Int,PyData.eqvAll (xs.map PyData.int) (ys.map PyData.int)=decide (xs=ys)
 | [],[]=>by simp [PyData.eqvAll]
 | [],y::ys=>by simp [PyData.eqvAll]
 | x::xs,[]=>by simp [PyData.eqvAll]
 | x::xs,y::ys=>by
   rw [List.map_cons,List.map_cons];simp only [PyData.eqvAll];rw [vW xs ys];simp [PyData.eqv];by_cases h1:x=y <;> by_cases h2:xs=ys <;> simp [h1,h2]
theorem DH (xs ys:List Int):PyData.eqv (.list (xs.map PyData.int)) (.list (ys.map PyData.int))=decide (xs=ys):=by
 simp only [PyData.eqv];exact vW xs ys
theorem CT {K:PySem.W.Frag} {H:Hp} {a b:Addr} {xs ys:List Int} {Q:VK} (ha:H a=some (.lst (xs.map V.int))) (hb:H b=some (.lst (ys.map V.int))) (q:Q (.bl (decide (xs=ys))) H):yO K (.ref a) (.ref b) H Q :=
 ⟨_,_,t9 ha,t9 hb,yT xs,by rw [DH];exact q⟩
end L2
set_option Elab.async false
set_option linter.all false
set_option maxRecDepth 100000
namespace L2
open PySem PySem.Spec PyProof.Rows
def BM (lo st:Int) (n:Nat):It:=⟨fun i _=>i<n,fun i H x H'=>H'=H/\x=.int (lo+i*st),fun i _=>n<=i⟩
theorem xE {P:Program} {w:World} {K:PySem.W.Frag} {tg:Expr} (it:Addr) (lo st:Int) (n:Nat):Turn P w K tg (BM lo st n) [it] it (fun i h=>IsRangeIter h it (lo+(i:Nat)*st) ((n:Int) - (i:Nat)) st) where
 mem:=by simp
 obj:=fun i h st b hb=>by
   have e:b=it:=by simpa using hb
   subst e;exact ⟨_,st,fun v z=>by
     have z':Data.fields _=Data.cell v:=z;cases z'⟩
 keep:=fun i h h' st k=>k it (by simp) _ st
 item:=by
   intro X hP hw hK hc i pins s σ H E I hf hst hg;subst hP hw hK;obtain ⟨f0,f1,f2,f3,f4,f5⟩:=hf it (by simp);have W:=Walks.range (prog:=X.prog) (w:=X.w) (I.ok.hd hc) it lo st n;refine W.item i s _ _ hg hst fun v h' tk hv st' kk=>?_;obtain ⟨t,rfl⟩:=hv;have I1:Inv X pins σ H { s with heap:=h',toks:=tk }:=I.turned (fun b o hb e=>kk b o (by simpa using hb) e) f0 f1 f3 f4 f5;exact ⟨_,rfl,rV (s:={ s with heap:=h',toks:=tk }) (n:="range_iterator") st' rfl rfl (by decide) ⟨.int (lo+i*st),H,I1,⟨t,rfl⟩,⟨rfl,rfl⟩,st',fun b hb=>(hf b hb).1⟩⟩
 done:=by
   intro X hP hw hK hc i pins s σ H E I hf hst hg;subst hP hw hK;obtain ⟨f0,f1,f2,f3,f4,f5⟩:=hf it (by simp);exact wpAny_pyNext_range_end (I.ok.hd hc) hst (by have:n<=i:=hg;omega) fun h' eb=>⟨rfl,I.turned (t':=s.toks) (fun b o hb e=>eb b o hb e) f0 f1 f3 f4 f5⟩
 self:=fun _ _ _ _ _ st h=>wpAny_pyIter_rangeiter st h
theorem sd {lo hi c:Int} (hc:0<c):Builtin.Range.rangeSize lo hi c=if lo<hi then (hi - lo - 1) / c+1 else 0:=by
 unfold Builtin.Range.rangeSize;rw [if_pos hc]
theorem ub {lo hi c:Int} (hc:0<c) (hh:hi<=1000000) (h0:0<=lo):0<=Builtin.Range.rangeSize lo hi c/\Builtin.Range.rangeSize lo hi c<=1000000:=by
 rw [sd hc];by_cases z:lo<hi
 . rw [if_pos z];have h1:=Int.ediv_nonneg (show 0<=hi - lo - 1 by omega) (show 0<=c by omega);have h2:=Int.ediv_le_self c (show 0<=hi - lo - 1 by omega);omega
 . rw [if_neg z];decide
theorem wL {lo hi c:Int} (h0:0<=lo) (h1:lo<=1000000) (hh0:0<=hi) (hh:hi<=1000000) (hc:0<c) (hc1:c<=1000000):Builtin.Range.small lo hi c=true:=by
 obtain ⟨q0,q1⟩:=ub (lo:=lo) (hi:=hi) hc hh h0;unfold Builtin.Range.small;generalize Builtin.Range.rangeSize lo hi c=z at q0 q1;rw [if_pos hc];have fit:∀ x:Int,-10000000<=x->x<=10000000->Builtin.Range.rangeFitsLong x=true:=fun x a b=>by
   unfold Builtin.Range.rangeFitsLong;simp only [Bool.and_eq_true,decide_eq_true_eq];omega
 rw [fit lo (by omega) (by omega),fit hi (by omega) (by omega),fit c (by omega) (by omega),fit z (by omega) (by omega),fit (hi+(c - 1)) (by omega) (by omega)];simp
def zn (ta:TA):TI:=fun σ H R=>ta σ H fun vs H1=>∃ i j c:Int,vs=[.int i,.int j,.int c]/\(0<=i/\i<=1000000/\0<=j/\j<=1000000/\0<c/\c<=1000000)/\R (BM i c (Builtin.Range.rangeSize i j c).toNat) H1
section
variable {X:Cx} {tg:Expr}
theorem zZ {a b c:Expr} {ta:TA} {p pos:Pos} (hg:Gl X "range") (hm:X.mg "range"=none) (ha:PA X [a,b,c] ta) (hs:starEach [a,b,c] X.env=(false,eval a X.env)::starEach [b,c] X.env:=by rfl) (hp:(backTo pos (starEach [b,c] X.env)).any (·.1)=false:=by rfl) :
   PI X tg (.Call (.Name "range" p) [a,b,c] [] pos) (zn ta):=by
 intro pins s σ H R I h;refine Call_ (lU I hg hm boot_range (PyProof.Rows.callWith_type1 (oX (ha pos pins s σ H _ I h) fun us s1 vs H1 I1 r1 q1=>?_) hs hp));obtain ⟨lo,hi,st,e,⟨q1,q2,q3,q4,q5,q6⟩,q⟩:=q1;subst e;cases r1 with
 | cons r rr =>
   cases rr with
   | cons r' rr =>
     cases rr with
     | cons r'' rr =>
       cases rr;obtain ⟨t,rfl⟩:=r;obtain ⟨t',rfl⟩:=r';obtain ⟨t'',rfl⟩:=r'';refine call_range_3 (by omega) ?_ (.inl (PyProof.noPylong_small (by omega)));refine wpAny_pyIter_range (IsRange.new ..) (wL q1 q2 q3 q4 q5 q6) ?_;have I2:Inv X pins σ H1 { s1 with heap:=s1.heap.push { cls:=.type "range",data:=.fields #[.int lo t,.int hi t',.int st t''] } }:=I1.kept (t':=s1.toks) fun b o e=>Heap.get?_push_of_some _ e;refine ⟨(s1.heap.push { cls:=.type "range",data:=.fields #[.int lo t,.int hi t',.int st t''] }).objs.size,[(s1.heap.push { cls:=.type "range",data:=.fields #[.int lo t,.int hi t',.int st t''] }).objs.size],_,_,H1,rfl,
         I2.kept (t':=s1.toks) fun b o e=>Heap.get?_push_of_some _ e,xE _ lo st _,?_,fun b hb=>?_,q⟩
       . have nn:=(ub (lo:=lo) (hi:=hi) q5 q4 q1).1;have e1:lo+((0:Nat):Int)*st=lo:=(by simp);have e2:(((Builtin.Range.rangeSize lo hi st).toNat:Nat):Int) - ((0:Nat):Int)=Builtin.Range.rangeSize lo hi st:=(by omega);show IsRangeIter _ _ (lo+((0:Nat):Int)*st) ((((Builtin.Range.rangeSize lo hi st).toNat:Nat):Int) - ((0:Nat):Int)) st;rw [e1,e2];exact Heap.get?_push_size _ rfl
       . have e:b=(s1.heap.push { cls:=.type "range",data:=.fields #[.int lo t,.int hi t',.int st t''] }).objs.size:=(by simpa using hb);subst e;exact I2.fpOk (Nat.le_refl _) (I2.hok.fresh (Nat.le_refl _))
end
end L2
set_option Elab.async false
set_option linter.all false
set_option maxRecDepth 100000
namespace L2
open PySem PySem.Spec PyProof.Rows
end L2
namespace Pb
open L2 PySem
section
variable {m:Int} {rs:List Road} {r:Int} {par:Int->Int} {dep:Int->Nat}
end
end Pb
set_option Elab.async false
set_option linter.all false
set_option maxRecDepth 100000
namespace L2
open PySem PySem.Spec PyProof.Rows
section
variable {P:Program} {w:World} {A:Around} {E:Value->Shared->Prop} {s:Shared} {l:Addr} {ob:Obj} {src:Heap->Array Value->Prop} {at':Addr->Nat->Heap->Prop}
end
def Ite (K:PySem.W.Frag) (c:Bool) (a:Addr):It :=
 ⟨fun i H=>∃ xs x,SqX K c H a xs/\xs[i]?=some x,
  fun i H v H'=>∃ p x,H p=none/\v=.ref p/\H'=upd H p (.tup [.int i,x])/\∀ xs,SqX K c H a xs->xs[i]?=some x,
  fun i H=>∃ xs,SqX K c H a xs/\xs.length=i⟩
def Dp (K:PySem.W.Frag) (c:Bool) (tl:TE):TI:=fun σ H R=>tl σ H fun x H1=>∃ a,x=.ref a/\(∃ xs,SqX K c H1 a xs)/\R (Ite K c a) H1
section
variable {X:Cx} {e:Expr} {te:TE} {p2 pos:Pos}
end
end L2
set_option Elab.async false
set_option linter.all false
set_option maxRecDepth 100000
namespace Pb
open L2 PySem
abbrev AG (H:Hp):List Addr->List (List Int)->Prop:=Paired fun q xs=>H q=some (.tup (xs.map V.int))
def li (xs:List Int):PyData:=.tuple (xs.map PyData.int)
theorem CS {K:PySem.W.Frag} {H:Hp} {q:Addr} {xs:List Int} (h:H q=some (.tup (xs.map V.int))):Deep K H (.ref q) (li xs):=.tup (SqT.of h) (jO xs)
theorem on {K:PySem.W.Frag} {H:Hp}:∀ {qs:List Addr} {xss:List (List Int)},AG H qs xss->DeepAll K H (qs.map V.ref) (xss.map li)
 | _,_,.nil=>.nil
 | _,_,.cons x xs=>.cons (CS x) (on xs)
theorem DM (xs:List Int):PyData.eqv (li xs) (li xs)=true:=by
 unfold li;simp only [PyData.eqv];exact pT xs
theorem wg:∀ xss:List (List Int),PyData.eqvAll (xss.map li) (xss.map li)=true
 | []=>by simp [PyData.eqvAll]
 | r::rs=>by
   rw [List.map_cons];simp only [PyData.eqvAll];rw [wg rs,DM]
   rfl
theorem AQ (xs:List Int):(li xs).depth<=2:=by
 unfold li;have:=ju xs;simp only [PyData.depth];omega
theorem rn:∀ xss:List (List Int),PyData.depthAll (xss.map li)<=2
 | []=>by simp [PyData.depthAll]
 | r::rs=>by
   rw [List.map_cons];simp only [PyData.depthAll];have:=rn rs;have h:=AQ r;omega
end Pb
namespace L2
open PySem PySem.Spec PyProof.Rows
def C1 (i j k:Nat) (ta:TA):TS:=fun D σ H=>ta σ H fun vs H1=>∃ v w z,vs=[v,w,z]/\D.nx (((σ.set i (some v)).set j (some w)).set k (some z)) H1
end L2
set_option Elab.async false
set_option linter.all false
set_option maxRecDepth 100000
namespace Pb
open L2
section
variable {m:Int} {rs:List Road} {r:Int} {par:Int->Int} {dep:Int->Nat} {held held':Int->Int} {con:Int->Int->Int}
end
end Pb
set_option Elab.async false
set_option linter.all false
set_option maxRecDepth 100000
namespace L2
open PySem PySem.Spec PyProof.Rows
theorem Ev (zs:List V) {k:Int} (k0:0<=k):kh zs none (some k)=zs.take k.toNat:=by
 unfold kh;have e1:HT.sIx zs.length 0 none=0:=rfl;have e2:HT.sIx zs.length zs.length (some k)=min k.toNat zs.length:=by
   show (if k<0 then (k+(zs.length:Int)).toNat else min k.toNat zs.length)=_;rw [if_neg (by omega)]
 rw [e1,e2,List.drop_zero,Nat.sub_zero,List.take_eq_take_iff];omega
end L2
namespace Pb
open L2 PySem
end Pb
set_option Elab.async false
set_option linter.all false
set_option maxRecDepth 100000
namespace Pb
open L2 PySem
section
variable {m:Int} {rs:List Road}
end
end Pb
set_option Elab.async false
set_option linter.all false
set_option maxRecDepth 100000
namespace L2
open PySem PySem.Spec PyProof.Rows
section
variable {X:Cx} {i o:Expr} {ty td:TE}
def Dq (ty td:TE):TE:=fun σ H Q=>ty σ H fun y H1=>td σ H1 fun x H2=>∃ a,x=.ref a/\((∃ o,DGet H2 a y o/\Q (.bl o.isSome) H2)\/(y=.non/\(∃ kvs,H2 a=some (.dK kvs))/\Q (.bl false) H2))
end
end L2
set_option Elab.async false
set_option linter.all false
set_option maxRecDepth 100000
namespace Pb
open L2 PySem
section
variable {m:Int} {rs:List Road} {r b:Int} {par:Int->Int} {dep:Int->Nat}
end
end Pb
namespace L2
theorem dn {A B:TS} {D:Ends} {σ:St} {H:Hp} (h:∀ N:St->Hp->Prop,(∀ σ' H',B D σ' H'->N σ' H')->A { D with nx:=N } σ H):zx A B D σ H:=h (B D) fun _ _ z=>z
end L2
set_option Elab.async false
set_option linter.all false
set_option maxRecDepth 100000
namespace L2
open PySem
theorem zK {K:PySem.W.Frag} {a:Addr} {xs:List V} {g:TG} {tb:TS} {D:Ends} {σ:St} {H:Hp} (Pv:Nat->St->Hp->Prop) (h0:Pv 0 σ H) (hl:∀ i σ H,i<=xs.length->Pv i σ H->SqL K H a xs)
   (hs:∀ (i:Nat) (x:V) (σ:St) (H:Hp) (N B:St->Hp->Prop),(∀ σ H,(g x σ H fun σ2 H2=>tb { D with nx:=N,ct:=N,bk:=D.nx } σ2 H2)->B σ H)->(∀ σ' H',Pv (i+1) σ' H'->N σ' H')->xs[i]?=some x->Pv i σ H->B σ H)
   (hd:∀ (B:St->Hp->Prop) σ H,(∀ σ H,D.nx σ H->B σ H)->Pv xs.length σ H->B σ H):jE (Itl K a) D g tb σ H :=
 uO Pv h0 hl (fun i x σ H N hN hx p=>hs i x σ H N (fun σ H=>g x σ H fun σ2 H2=>tb { D with nx:=N,ct:=N,bk:=D.nx } σ2 H2) (fun _ _ z=>z) hN hx p) fun σ H p=>hd (fun σ H=>D.nx σ H) σ H (fun _ _ z=>z) p
theorem rK {lo:Int} {n:Nat} {g:TG} {tb:TS} {D:Ends} {σ:St} {H:Hp} (Pv:Nat->St->Hp->Prop) (h0:Pv 0 σ H)
   (hs:∀ (i:Nat) (σ:St) (H:Hp) (N B:St->Hp->Prop),(∀ σ H,(g (.int (lo+i)) σ H fun σ2 H2=>tb { D with nx:=N,ct:=N,bk:=D.nx } σ2 H2)->B σ H)->(∀ σ' H',Pv (i+1) σ' H'->N σ' H')->i<n->Pv i σ H->B σ H)
   (hd:∀ (B:St->Hp->Prop) σ H,(∀ σ H,D.nx σ H->B σ H)->Pv n σ H->B σ H):jE (Itr lo n) D g tb σ H :=
 yE Pv h0 (fun i σ H N hN hi p=>hs i σ H N (fun σ H=>g (.int (lo+i)) σ H fun σ2 H2=>tb { D with nx:=N,ct:=N,bk:=D.nx } σ2 H2) (fun _ _ z=>z) hN hi p) fun σ H p=>hd (fun σ H=>D.nx σ H) σ H (fun _ _ z=>z) p
end L2
set_option Elab.async false
set_option linter.all false
set_option maxRecDepth 100000
namespace Pb
open L2 PySem
section
variable {m:Int} {rs:List Road} {r:Int} {par:Int->Int} {dep:Int->Nat}
variable {para parb parc:Int->Int} {depa depb depc:Int->Nat} {a b c:Int}
end
section
variable {m:Int} {rs:List Road} {r b:Int} {par:Int->Int} {dep:Int->Nat}
end
end Pb
set_option Elab.async false
set_option linter.all false
set_option maxRecDepth 100000
namespace Pb
open L2 PySem
section
variable {m:Int} {rs:List Road} {r b:Int} {par:Int->Int} {dep:Int->Nat}
end
end Pb
set_option Elab.async false
set_option linter.all false
namespace L2
open PySem
end L2
namespace Pb
open PySem L2
end Pb
set_option Elab.async false
set_option linter.all false
set_option maxRecDepth 100000
set_option exponentiation.threshold 5000
namespace Pb
open L2 PySem
section
variable {m:Int} {rs:List Road} {r:Int} {par:Int->Int} {dep:Int->Nat}
variable {op:Int->Int->Int} {held:Int->Int} {con:Int->Int->Int}
end
end Pb
set_option Elab.async false
set_option linter.all false
set_option maxRecDepth 100000
namespace L2
open PySem PySem.Spec PyProof.Rows
section
variable {X:Cx}
end
end L2
namespace Pb
end Pb
set_option Elab.async false
set_option linter.all false
set_option maxRecDepth 100000
namespace L2
open PySem PySem.Spec PyProof.Rows
theorem gy {l:List Addr} (h:l.Nodup) (i j:Nat) {a b:Addr} (hi:l[i]?=some a) (hj:l[j]?=some b) (ij:i≠j):a≠b:=fun z=>by
 subst z;obtain ⟨h1,e1⟩:=List.getElem?_eq_some_iff.mp hi;obtain ⟨h2,e2⟩:=List.getElem?_eq_some_iff.mp hj;rcases Nat.lt_or_gt_of_ne ij with q|q
 . exact List.pairwise_iff_getElem.mp h i j h1 h2 q (e1.trans e2.symm)
 . exact List.pairwise_iff_getElem.mp h j i h2 h1 q (e2.trans e1.symm)
inductive ClsAll (K:PySem.W.Frag) (C:Addr):List V->List Bool->Prop
 | nil:ClsAll K C [] []
 | cons {cv:V} {b:Bool} {cvs:List V} {bs:List Bool} (h:zF K C cv b) (t:ClsAll K C cvs bs):ClsAll K C (cv::cvs) (b::bs)
theorem xW {K:PySem.W.Frag} {C:Addr} (c:XCls K C):∀ {cvs:List V} {us:List Value} {bs:List Bool},Vals cvs us->ClsAll K C cvs bs->PySem.W.kitAny K (.ref C) us=some (bs.any id)
 | _,_,_,.nil,.nil=>rfl
 | _,_,_,.cons r t,.cons (b:=true) h hs=>by
   unfold PySem.W.kitAny;rw [sY c r h]
   rfl
 | _,_,_,.cons r t,.cons (b:=false) h hs=>by
   unfold PySem.W.kitAny;rw [sY c r h];have h2:=xW c t hs;exact h2
def Db (K:PySem.W.Frag):List V->Hp->VK->Prop:=fun xs H Q=>∃ ea C od tp cvs bs,xs=[.ref ea,.ref tp]/\H ea=some (ExO ea (.ref C) od)/\sF H od/\XCls K C/\H tp=some (.tup cvs)/\ClsAll K C cvs bs/\Q (.bl (bs.any id)) H
section
variable {X:Cx}
theorem Av:dk X (.builtin "isinstance") (Db X.K):=by
 intro pins s σ H xs us Q I r h;obtain ⟨ea,C,od,tp,cvs,bs,rfl,he,hd,c,ht,hk,q⟩:=h;obtain ⟨u,cu,rfl,ru,rc⟩:=zm r;cases (show u=Value.ref ea from ru);cases (show cu=Value.ref tp from rc);obtain ⟨ox,oo,ia⟩:=wu I he hd;obtain ⟨its,rv,⟨⟨oc,odd,dat,sl⟩,e,e1,n,e2⟩,_⟩:=I.tuple (SqT.of ht);cases e1;cases e2;exact PySem.W.kia_tup (wz (x:=ea) (ox:=ox) (od:=oo) c) I.kIn ia e (xW c rv hk) (fun z=>nomatch z) fun tk=>⟨.bl (bs.any id),H,I.tok tk,rfl,q⟩
theorem Ex:bootBuiltins "str"=some (.type "str"):=by decide +kernel
end
end L2
set_option Elab.async false
set_option linter.all false
set_option maxRecDepth 100000
namespace L2
open PySem PySem.Spec PyProof.Rows
section
variable {P:Program} {w:World} {A:Around} {R:Result->Shared->Prop} {I S:Addr} {fp wr:List Addr} {n:Nat} {Pv:Nat->Value->Prop} {St:Nat->Heap->Prop} {bt:Nat->Nat->Bool} {kw:List (Str × Value)}
end
section
variable {X:Cx} {x:Str} {p pos kpos:Pos} {e de:Expr} {t tk:TA}
def C7 (K:PySem.W.Frag) (t tk:TA):TE:=fun σ H Q=>t σ H fun vs H1=>tk σ H1 fun zs H2=>∃ (q:Addr) (ns:List Int) (d:V),vs=[.ref q]/\zs=[d]/\SqL K H2 q (ns.map V.int)/\ns≠[]/\∀ y,y∈ns->(∀ x∈ns,y<=x)->Q (.int y) H2
def Dl (t:TE):TE:=fun σ H Q=>t σ H fun x H1=>∃ b,x=.bl b/\Q (.bl (b != true)) H1
end
end L2
set_option Elab.async false
set_option linter.all false
set_option maxRecDepth 100000
namespace Pb
open L2 PySem
section
variable {m:Int} {rs:List Road} {r:Int} {par:Int->Int} {dep:Int->Nat}
variable {ch:Int->Option Int} {w:Int} {cn:Int->Int}
end
end Pb
set_option Elab.async false
set_option linter.all false
set_option maxRecDepth 100000
namespace L2
open PySem PySem.Spec PyProof.Rows PySem.W
section
variable {n:Nat}
variable (hn:0<n)
include hn
end
section
variable {prog:Program} {w:World} {A:Around} {E:Value->Shared->Prop} {s:Shared}
end
end L2
set_option Elab.async false
set_option linter.all false
set_option maxRecDepth 100000
namespace L2
open PySem PySem.Spec PyProof.Rows PySem.W Pb
section
variable {prog:Program} {w:World} {A:Around} {E:Value->Shared->Prop} {s:Shared} {it d:Addr} {i ep:Nat} {es:Array DictEntry}
end
section
variable {prog:Program} {w:World} {A:Around} {E:Value->Shared->Prop} {s:Shared} {fin:Bool} {C:Bool->Shared->Prop}
end
section
variable {prog:Program} {w:World} {A:Around} {E:Value->Shared->Prop} {s:Shared}
end
section
variable {X:Cx}
end
end L2
set_option Elab.async false
set_option linter.all false
set_option maxRecDepth 100000
namespace L2
end L2
namespace Pb
open L2 PySem
section
variable {m:Int} {rs:List Road} {r:Int} {par:Int->Int} {dep:Int->Nat}
end
section
end
end Pb
set_option Elab.async false
set_option linter.all false
set_option maxRecDepth 100000
namespace L2
open PySem PySem.Spec PyProof.Rows
def Ax (tk tv:TE):TE:=fun σ H Q=>∀ p,H p=none->lV [(tk,tv)] σ (upd H p (.dT [])) fun ps H2=>H2 p=some (.dT [])/\∃ (k:List Key) (b:Addr) (y:V),ps=[(.ref b,y)]/\H2 b=some (.tup (k.map kV))/\Q (.ref p) (upd H2 p (.dT [(k,y)]))
end L2
set_option Elab.async false
set_option linter.all false
set_option maxRecDepth 100000
namespace Pb
open L2 PySem
end Pb
namespace Pb
open L2 PySem
section
variable {m:Int} {rs:List Road} {xs:List Int}
variable {r:Int} {par:Int->Int} {dep:Int->Nat}
end
end Pb
set_option Elab.async false
set_option linter.all false
set_option maxRecDepth 100000
namespace L2
open PySem PySem.Spec PyProof.Rows Pb
section
variable {X:Cx}
end
end L2
set_option Elab.async false
set_option linter.all false
set_option maxRecDepth 100000
namespace L2
open PySem PySem.Spec PyProof.Rows
end L2
namespace Pb
end Pb
namespace L2
open PySem Pb
end L2
namespace L2
open PySem
end L2
namespace L2
open PySem
end L2
namespace L2
open PySem PySem.Spec PyProof.Rows Pb
end L2
namespace L2
open PySem
end L2
set_option Elab.async false
set_option linter.all false
set_option maxRecDepth 100000
namespace Pb
open L2 PySem
section
variable {m:Int} {rs:List Road} {r:Int} {par:Int->Int} {dep:Int->Nat}
end
section
variable {m:Int} {rs:List Road} {xs:List Int}
end
end Pb
set_option Elab.async false
set_option linter.all false
set_option maxRecDepth 100000
namespace L2
open PySem PySem.Spec PyProof.Rows PySem.W Pb
section
variable {X:Cx} {pins:List (Addr × Obj)} {σ:St} {H:Hp} {s:Shared}
end
def Itd (d:Addr) (o:Obj) (kvs:List (List Key × V)):It :=
 ⟨fun i H=>H d=some (.frz o (.dT kvs))/\i<kvs.length,fun i H x H'=>H'=H/\∃ (q:Addr) (k:List Key) (v:V),x=.ref q/\kvs[i]?=some (k,v)/\H q=some (.tup (k.map kV)),fun i H=>H d=some (.frz o (.dT kvs))/\i=kvs.length⟩
def CZ (tl:TE) (g:TG) (tb:TS):TS:=fun D σ H=>tl σ H fun x H1=>∃ (d:Addr) (kvs:List (List Key × V)),x=.ref d/\H1 d=some (.dT kvs) /\
 ∀ o,jE (Itd d o kvs) { D with nx:=fun σ' H'=>H' d=some (.frz o (.dT kvs))/\D.nx σ' (upd H' d (.dT kvs)) } g tb σ (upd H1 d (.frz o (.dT kvs)))
section
variable {X:Cx} {tg:Expr}
end
end L2
set_option Elab.async false
set_option linter.all false
set_option maxRecDepth 100000
namespace Pb
open L2 PySem
section
variable {α β:Type}
end
section
variable {m:Int} {rs:List Road} {r:Int} {par:Int->Int} {dep:Int->Nat}
end
end Pb
namespace Pb
open L2 PySem
section
variable {m:Int} {rs:List Road} {r:Int} {par:Int->Int} {dep:Int->Nat} {to:Bool}
end
end Pb
namespace Pb
open L2 PySem
end Pb
namespace Pb
open L2 PySem
end Pb
set_option Elab.async false
set_option linter.all false
set_option maxRecDepth 100000
namespace L2
open PySem PySem.Spec PyProof.Rows
section
variable {X:Cx} {cx:Str} {Nc:List Str} {own:Nat} {js:List Nat} {scope:Scope} {cl:List (Str × Addr)}
end
section
variable {X:Cx} {cx:Str} {Nc:List Str} {own:Nat} {js:List Nat} {scope:Scope} {cl:List (Str × Addr)}
end
end L2
set_option Elab.async false
set_option linter.all false
set_option maxRecDepth 100000
namespace L2
open PySem PySem.Spec PyProof.Rows PySem.W
section
variable {X:Cx}
theorem vP:∀ {ys:List Str} {its:List Value},Vals (ys.map V.str) its->StrsAre its ys
 | [],_,.nil=>.nil
 | y::ys,_,.cons h r=>by
   obtain ⟨t,rfl⟩:=h;exact .cons y t (vP r)
def Fu (K:PySem.W.Frag):V->List V->Hp->VK->Prop:=fun x vs H Q=>∃ z l ys,x=.str z/\vs=[.ref l]/\SqL K H l (ys.map V.str)/\(ys.map (·.length)).sum+ys.length*z.length<=16777216/\Q (.str (Str.join z ys)) H
theorem xV:MtM X "str.join" (Fu X.K):=by
 intro pins s σ H x vs v us Q I rx rv h;obtain ⟨z,l,ys,rfl,rfl,hl,hok,q⟩:=h;obtain ⟨t,rfl⟩:=rx;obtain ⟨u,rfl,rl⟩:=fo rv;cases rl;obtain ⟨its,r,pl,hz⟩:=I.list hl;refine join_list pl.isList (by simpa using vP r) hok fun t' k=>⟨.str _,H,I.tok _,⟨_,rfl⟩,?_⟩;unfold Txt.join;rw [StrLaws.glued_eq_join];exact q
theorem uQ:∀ l:List (Str × Tok),Vals ((l.map (·.1)).map V.str) (strValues l)
 | []=>.nil
 | (y,t)::l=>.cons ⟨t,rfl⟩ (uQ l)
theorem fY:MtM X "str.split" (fun x vs H Q=>∃ z y,x=.str z/\vs=[.str y]/\(y.length == 0)=false/\z.length<=60000/\∀ l,H l=none->Q (.ref l) (upd H l (.lst ((Txt.split z y).map V.str)))):=by
 intro pins s σ H x vs v us Q I rx rv h;obtain ⟨z,y,rfl,rfl,hy,hz,q⟩:=h;obtain ⟨t,rfl⟩:=rx;obtain ⟨u',rfl,u,rfl⟩:=fo rv;have hsz:z.length<=sizeLine:=Nat.le_trans hz (by decide);have fin:∀ (l:List (Str × Tok)) (k:Nat),l.map (·.1)=Txt.split z y->l.length<=sizeLine->EP X pins σ Q (.ref s.heap.objs.size) { s with toks:=k,heap:=s.heap.push { cls:=.type "list",data:=.seq (strValues l).toArray } }:=fun l k e hl=>by
   refine ⟨.ref s.heap.objs.size,_,I.laid (a:=s.heap.objs.size) (o:=.lst ((Txt.split z y).map V.str)) (t':=k) (fun b u e=>Heap.get?_push_of_some _ e) (Nat.le_refl _) ⟨?_,strValues l,_,?_,Heap.get?_push_size _ rfl⟩,rfl,q _ (I.hok.fresh (Nat.le_refl _))⟩
   . rw [List.length_map,<- e,List.length_map];exact hl
   . rw [<- e];exact uQ l
 have sl:(Txt.split z y).length<=sizeLine:=Nat.le_trans (split_le z y) (Nat.le_trans (Nat.add_le_add_right hz 2) (by decide));have ln:∀ {l:List (Str × Tok)},l.map (·.1)=Txt.split z y->l.length<=sizeLine:=fun {l} e=>by
   have:=congrArg List.length e;rw [List.length_map] at this;rw [this];exact sl
 cases h1:(decide (z.length<y.length) || decide (Builtin.Str.strKind z<Builtin.Str.strKind y))
 . cases hf:(Builtin.Str.occurrences z y 0 z.length (z.length+1)).isEmpty
   . have es:Txt.split z y=Builtin.Str.partsBetween z (Builtin.Str.occurrences z y 0 z.length (z.length+1)) y.length:=by
       unfold Txt.split;rw [if_neg (ne_true_of_eq_false h1),if_neg (ne_true_of_eq_false hf)]
     refine call_meets F.slot_str_split (typeIs_str _ _ _) F.entry_str_split (F.args_str_split_2 _ _) (meets_str_split_sep z y t u h1 hy hf hsz (by rw [<- es];exact sl)) ?_;show wants _ _ _ { s with toks:=_,heap:=s.heap.push { cls:=.type "list",data:=.seq (strsFrom s.toks (Builtin.Str.partsBetween z (Builtin.Str.occurrences z y 0 z.length (z.length+1)) y.length)).toArray } };rw [strsFrom_eq];have e:(numbered s.toks (Builtin.Str.partsBetween z (Builtin.Str.occurrences z y 0 z.length (z.length+1)) y.length)).map (·.1)=Txt.split z y:=(numbered_texts _ _).trans es.symm;exact fin _ _ e (ln e)
   . have e:[(z,t)].map (·.1)=Txt.split z y:=by
       unfold Txt.split;rw [if_neg (ne_true_of_eq_false h1),if_pos hf]
       rfl
     exact call_meets F.slot_str_split (typeIs_str _ _ _) F.entry_str_split (F.args_str_split_2 _ _) (meets_str_split_not_found z y t u h1 hy hf) (fin [(z,t)] s.toks e (ln e))
 . have e:[(z,t)].map (·.1)=Txt.split z y:=by
     unfold Txt.split;rw [if_pos h1]
     rfl
   exact call_meets F.slot_str_split (typeIs_str _ _ _) F.entry_str_split (F.args_str_split_2 _ _) (meets_str_split_cannot_occur z y t u h1) (fin [(z,t)] s.toks e (ln e))
theorem zM:dk X (.type "int") (fun xs H Q=>∃ z i,xs=[.str z]/\PySem.intText? z=some i/\z.length<=640/\Q (.int i) H):=by
 intro pins s σ H xs us Q I r h;obtain ⟨z,i,rfl,hi,hl,q⟩:=h;obtain ⟨u,rfl,t,rfl⟩:=fo r;exact KIN.call_text hi hl ⟨.int i,H,I.tok _,⟨_,rfl⟩,q⟩
end
def Its (z:Str):It:=⟨fun i _=>i<z.cps.size,fun i H x H'=>H'=H/\∃ c,z.cps[i]?=some c/\x=.str ⟨#[c]⟩,fun i _=>z.cps.size<=i⟩
theorem B4 {P:Program} {w:World} {K:PySem.W.Frag} {tg:Expr} (it:Addr) (z:Str) (t:Tok):Turn P w K tg (Its z) [it] it (fun i h=>h.IsStrIter it "str_ascii_iterator" z t i) where
 mem:=by simp
 obj:=fun i h st b hb=>by
   have e:b=it:=by simpa using hb
   subst e;obtain ⟨o,e,c,d⟩:=st;exact ⟨o,e,fun v z=>by rw [d] at z;cases z⟩
 keep:=fun i h h' st k=>let ⟨o,ho,r⟩:=st;⟨o,k it (by simp) o ho,r⟩
 item:=by
   intro X hP hw hK hc i pins s σ H E I hf st hg;subst hP hw hK;have hg:i<z.cps.size:=hg;obtain ⟨f0,f1,f2,f3,f4,f5⟩:=hf it (by simp);refine wpAny_pyNext_ascii_item st (c:=z.cps[i]) (by simp [hg]) fun h' st' sb=>?_;have I1:Inv X pins σ H { s with heap:=h',toks:=s.toks+1 }:=I.turned (t':=s.toks+1) (fun b o hb e=>(sb.2 b hb).trans e) f0 f1 f3 f4 f5;obtain ⟨o,e,c,d⟩:=id st';exact ⟨_,rfl,rV (s:={ s with heap:=h',toks:=s.toks+1 }) e c d (by decide) ⟨.str ⟨#[z.cps[i]]⟩,H,I1,⟨_,rfl⟩,⟨rfl,_,by simp [hg],rfl⟩,st',fun b hb=>(hf b hb).1⟩⟩
 done:=by
   intro X hP hw hK hc i pins s σ H E I hf st hg;subst hP hw hK;have hg:z.cps.size<=i:=hg;obtain ⟨f0,f1,f2,f3,f4,f5⟩:=hf it (by simp);exact wpAny_pyNext_ascii_end (I.ok.hd hc) st (by simp [hg]) fun h' eb=>⟨rfl,I.turned (t':=s.toks) (fun b o hb e=>eb b o hb e) f0 f1 f3 f4 f5⟩
 self:=fun _ _ _ _ _ st h=>wpAny_pyIter_striter_ascii st h
section
variable {X:Cx} {tg:Expr}
def BG (tl:TE):TI:=fun σ H R=>tl σ H fun x H1=>∃ z,x=.str z/\z.cps.all (·<128)=true/\R (Its z) H1
theorem AD {l:Expr} {tl:TE} (hl:PE X l tl):PI X tg l (BG tl):=by
 intro pins s σ H R I h;refine bc (hl pins s σ H _ I h) fun v s1 x H1 I1 r1 q1=>?_;obtain ⟨z,e,ha,q⟩:=q1;subst e;obtain ⟨t,rfl⟩:=r1;refine wpAny_pyIter_ascii ha ?_;refine ⟨s1.heap.objs.size,[s1.heap.objs.size],_,_,H1,rfl,I1.kept (t':=s1.toks) fun b o e=>Heap.get?_push_of_some _ e,B4 _ z t,⟨_,Heap.get?_push_size _ rfl,rfl,rfl⟩,fun b hb=>?_,q⟩;have e:b=s1.heap.objs.size:=by simpa using hb
 subst e;exact I1.fpOk (Nat.le_refl _) (I1.hok.fresh (Nat.le_refl _))
end
section
variable {P:Program} {w:World} {A:Around} {E:Value->Shared->Prop} {s:Shared}
end
section
variable {X:Cx} {e:Expr} {te:TE} {p2 apos cpos pos2:Pos} {z:Str} {zp:Pos} {zk:Nat}
def AH (K:PySem.W.Frag) (z:Str) (te:TE):TE:=fun σ H Q=>te σ H fun x H1=>∃ (a:Addr) (ys:List Str),x=.ref a/\SqL K H1 a (ys.map V.str)/\(ys.map (·.length)).sum+ys.length*z.length<=16777216/\Q (.str (Str.join z ys.reverse)) H1
end
theorem CA {X:Cx} {x y:Str} {pos:Pos} (hg:Gl X x) (hm:∃ t,X.mg x=some (.str y t)) (hd:(x == ("__debug__":Str))=false:=by decide):PE X (.Name x pos) (tC (.str y)):=by
 obtain ⟨t,e⟩:=hm;exact d0 hg e ⟨t,rfl⟩ hd
theorem Cv {z:Str} {p:Addr} {Q:VK} {g:TG} {tc:TT} {te:TE} {σ0:St} {H0:Hp} (Pv:Nat->List V->St->Hp->Prop) (h0:Pv 0 [] σ0 H0)
   (hs:∀ (i c:Nat) (ys:List V) (σ:St) (H:Hp) (N:List V->St->Hp->Prop),(∀ ys' σ' H',Pv (i+1) ys' σ' H'->N ys' σ' H')->z.cps.toList[i]?=some c->Pv i ys σ H->g (.str ⟨#[c]⟩) σ H fun σ2 H2=>tc σ2 H2 fun b H3 =>
     if b=true then te σ2 H3 fun y H4=>H4 p=some (.lst ys)/\ys.length<sizeLine/\N (ys++[y]) σ2 (upd H4 p (.lst (ys++[y]))) else N ys σ2 H3)
   (hd:∀ ys σ H,Pv z.cps.toList.length ys σ H->Q (.ref p) H):vX (Its z) p Q g tc te σ0 H0:=by
 have sz:z.cps.size=z.cps.toList.length:=by simp
 refine ⟨fun i m ys σ H=>m=z.cps.toList.length - i/\i<=z.cps.toList.length/\Pv i ys σ H,⟨z.cps.toList.length,by simp,Nat.zero_le _,h0⟩,?_⟩;rintro i m ys σ H ⟨rfl,hi,pv⟩;by_cases hlt:i<z.cps.toList.length
 . refine .inr ⟨by show i<z.cps.size;omega,fun x H' y=>?_⟩;obtain ⟨rfl,c,hc,rfl⟩:=y;exact hs i c ys σ _ (fun ys' σ' H'=>∃ m',m'<z.cps.toList.length - i/\(m'=z.cps.toList.length - (i+1)/\i+1<=z.cps.toList.length/\Pv (i+1) ys' σ' H')) (fun ys' σ' H' pv'=>⟨z.cps.toList.length - (i+1),by omega,rfl,hlt,pv'⟩) (by rw [Array.getElem?_toList];exact hc) pv
 . have e:i=z.cps.toList.length:=by omega
   subst e;exact .inl ⟨by show z.cps.size<=_;omega,hd ys σ H pv⟩
end L2
set_option Elab.async false
set_option linter.all false
set_option maxRecDepth 100000
namespace Pb
open L2 PySem PySem.W NumText
def gI (n:Nat):List Nat:=(Nat.toDigits 10 n).map Char.toNat
def FS (n:Nat):Str:=⟨(gI n).toArray⟩
theorem lD (n:Nat):(FS n).cps.toList=gI n:=rfl
theorem jG {a b:Str} (h:a.cps.toList=b.cps.toList):a=b:=by
 cases a;cases b
 congr 1
 exact Array.toList_inj.mp h
theorem Fk (n:Nat):Str.ofString (toString ((n:Nat):Int))=FS n:=jG (KIN.signs_num n)
theorem Fl:∀ d:Nat,d<10->(Nat.digitChar d).toNat=48+d:=by decide
theorem ir {n:Nat} (h:n<10):gI n=[48+n]:=by
 unfold gI;rw [Nat.toDigits_of_lt_base h];show [(Nat.digitChar n).toNat]=_;rw [Fl n h]
theorem lZ {n:Nat} (h:10<=n):gI n=gI (n / 10)++[48+n % 10]:=by
 have hm:n % 10<10:=Nat.mod_lt n (by decide);have t:Nat.toDigits 10 (n / 10)++Nat.toDigits 10 (n % 10)=Nat.toDigits 10 (10*(n / 10)+n % 10):=Nat.toDigits_append_toDigits (by decide) (by omega) hm;rw [Nat.div_add_mod] at t;unfold gI;rw [<- t,List.map_append]
 congr 1
 exact ir hm
theorem gX (n:Nat):AllDigits (gI n):=by
 induction n using Nat.strongRecOn with
 | _ n ih =>
   by_cases h:n<10
   . rw [ir h];intro c hc;rw [List.mem_singleton.mp hc];omega
   . rw [lZ (by omega)];intro c hc;rcases List.mem_append.mp hc with hc|hc
     . exact ih (n / 10) (by omega) c hc
     . rw [List.mem_singleton.mp hc];have:=Nat.mod_lt n (show 10 > 0 by decide);omega
theorem xX (n:Nat):gI n≠[]:=by
 by_cases h:n<10
 . rw [ir h];simp
 . rw [lZ (by omega)];simp
theorem A7 (n:Nat) (h:0<n):∃ c r,gI n=c::r/\c≠48:=by
 induction n using Nat.strongRecOn with
 | _ n ih =>
   by_cases h2:n<10
   . exact ⟨48+n,[],ir h2,by omega⟩
   . obtain ⟨c,r,e,hc⟩:=ih (n / 10) (by omega) (by omega);exact ⟨c,r++[48+n % 10],by rw [lZ (by omega),e];rfl,hc⟩
theorem mP:∀ (k n:Nat),n<10^(k+1)->(gI n).length<=k+1
 | 0,n,h=>by rw [ir (by simpa using h)];simp
 | k+1,n,h=>by
   by_cases h2:n<10
   . rw [ir h2];simp
   . rw [lZ (by omega),List.length_append,List.length_singleton];have:=mP k (n / 10) (by rw [Nat.pow_succ] at h;omega);omega
theorem vH (n:Nat):digitsVal (gI n)=n:=KIN.val_back n
theorem app_list (a b:Str):(a++b).cps.toList=a.cps.toList++b.cps.toList:=PySem.W.KT.app_list a b
theorem bq (a:Str):a.length=a.cps.toList.length:=by
 show a.cps.size=_;simp
def aU (s:List Nat):List (List Nat)->List Nat
 | []=>[]
 | [x]=>x
 | x::y::r=>x++s++aU s (y::r)
theorem cZ (z:Str):∀ ys:List Str,(Str.join z ys).cps.toList=aU z.cps.toList (ys.map (·.cps.toList))
 | []=>rfl
 | [x]=>rfl
 | x::y::r=>by
   show (x++z++Str.join z (y::r)).cps.toList=_;rw [app_list,app_list,cZ z (y::r)]
   rfl
theorem rJ {c:Nat}:∀ {a b X Y:List Nat},c ∉ a->c ∉ b->a++c::X=b++c::Y->a=b/\X=Y
 | [],[],X,Y,_,_,e=>⟨rfl,by simpa using e⟩
 | [],b::bs,X,Y,_,hb,e=>by
   have:=(List.cons.inj e).1;exact absurd (by rw [this];exact .head _) hb
 | a::as,[],X,Y,ha,_,e=>by
   have:=(List.cons.inj e).1;exact absurd (by rw [<- this];exact .head _) ha
 | a::as,b::bs,X,Y,ha,hb,e=>by
   obtain ⟨e1,e2⟩:=List.cons.inj e;obtain ⟨h1,h2⟩:=rJ (fun h=>ha (.tail _ h)) (fun h=>hb (.tail _ h)) e2;exact ⟨by rw [e1,h1],h2⟩
theorem uB {c:Nat}:∀ {A B:List (List Nat)},A≠[]->B≠[]->(∀ a∈A,c ∉ a)->(∀ b∈B,c ∉ b)->aU [c] A=aU [c] B->A=B
 | [],_,h,_,_,_,_=>absurd rfl h
 | _,[],_,h,_,_,_=>absurd rfl h
 | [a],[b],_,_,_,_,e=>by rw [show a=b from e]
 | [a],b::b'::r,_,_,ha,_,e=>by
   have:c∈a:=by rw [show a=b++[c]++aU [c] (b'::r) from e];simp
   exact absurd this (ha a (.head _))
 | a::a'::r,[b],_,_,_,hb,e=>by
   have:c∈b:=by rw [<- show a++[c]++aU [c] (a'::r)=b from e];simp
   exact absurd this (hb b (.head _))
 | a::a'::r,b::b'::r',_,_,ha,hb,e=>by
   have e:a++[c]++aU [c] (a'::r)=b++[c]++aU [c] (b'::r'):=e;rw [List.append_assoc,List.append_assoc] at e;obtain ⟨h1,h2⟩:=rJ (ha a (.head _)) (hb b (.head _)) e;rw [h1,uB (by simp) (by simp) (fun x hx=>ha x (.tail _ hx)) (fun x hx=>hb x (.tail _ hx)) h2]
theorem mF {c:Nat} {ys:List Str} (h:ys≠[]) (hc:∀ y∈ys,c ∉ y.cps.toList):Txt.split (Str.join ⟨#[c]⟩ ys) ⟨#[c]⟩=ys:=by
 have e:=StrLaws.join_split (Str.join ⟨#[c]⟩ ys) ⟨#[c]⟩;have f:=StrLaws.split_free (Str.join ⟨#[c]⟩ ys) c;have n:=PyProof.Rows.split_pos (Str.join ⟨#[c]⟩ ys) ⟨#[c]⟩;generalize Txt.split (Str.join ⟨#[c]⟩ ys) ⟨#[c]⟩=zs at e f n ⊢;have e':=congrArg (fun s:Str=>s.cps.toList) e;simp only [cZ] at e';have e2:zs.map (·.cps.toList)=ys.map (·.cps.toList):=uB (c:=c) (by intro z;rw [List.map_eq_nil_iff.mp z] at n;simp at n) (by intro z;exact h (List.map_eq_nil_iff.mp z)) (fun a ha=>by obtain ⟨y,hy,rfl⟩:=List.mem_map.mp ha;exact f y hy) (fun a ha=>by obtain ⟨y,hy,rfl⟩:=List.mem_map.mp ha;exact hc y hy) e';have inj:∀ {l l':List Str},l.map (·.cps.toList)=l'.map (·.cps.toList)->l=l':=by
   intro l
   induction l with
   | nil=>intro l' e;cases l' with
     | nil=>rfl
     | cons _ _=>cases e
   | cons x l ih =>
     intro l' e;cases l' with
     | nil=>cases e
     | cons y l' =>
       obtain ⟨h1,h2⟩:=List.cons.inj e;rw [jG h1,ih h2]
 exact inj e2
theorem D6 {m n:Nat} (h:m<10^n) (h1:n<=500) (h0:0<n):((m:Nat):Int).natAbs.log2<1920:=by
 show m.log2<1920;by_cases z:m=0
 . subst z;decide
 . refine (Nat.log2_lt z).mpr (Nat.lt_of_lt_of_le h ?_);refine Nat.le_trans (Nat.pow_le_pow_right (by decide) h1) ?_
   decide
def vNs (ns:List Nat):List V:=ns.map fun n:Nat=>V.int (n:Int)
theorem _root_.List.getElem?_map_some {α β:Type} {f:α->β} {l:List α} {i:Nat} {y:β} (h:(l.map f)[i]?=some y):∃ x,l[i]?=some x/\y=f x:=by
 rw [List.getElem?_map] at h;cases e:l[i]? with
 | none=>rw [e] at h;cases h
 | some x=>rw [e] at h;exact ⟨x,rfl,(Option.some.inj h).symm⟩
theorem Br (n:Nat) (h:n<10^60):PySem.intText? (FS n)=some (n:Int):=by
 have:=intText_digits (x:=FS n) (gX n) (xX n) (Nat.le_trans (Nat.le_of_eq (bq _)) (Nat.le_trans (mP 59 n h) (by decide)));rw [lD,vH] at this;exact this
theorem ixS {z:Str} {i:Nat} {c:Nat} {H:Hp} {Q:VK} (hz:z.cps.toList.length<=60) (h:z.cps.toList[i]?=some c) (q:Q (.str ⟨#[c]⟩) H):rIxS (.str z) (.int i) H Q :=
 ⟨z,i,c,rfl,rfl,Nat.le_trans (Nat.le_of_eq (bq z)) (Nat.le_trans hz (by decide)),tS h,q⟩
theorem FK:∀ d:Nat,d<10->(Str.ofString "0123456789").cps.toList[d]?=some (48+d):=by decide +kernel
theorem Fs {c:Nat} (h:48<=c/\c<=57):(!(Builtin.Str.occurrences (Str.ofString "0123456789") ⟨#[c]⟩ 0 (Str.ofString "0123456789").length 1).isEmpty)=true:=by
 rw [StrLaws.found_one,decide_eq_true_eq];have:=FK (c - 48) (by omega);rw [show 48+(c - 48)=c by omega] at this;exact List.mem_of_getElem? this
theorem kX {c:Nat} {s:List Nat}:∀ {l:List (List Nat)},c∈aU s l->c∈s\/∃ x∈l,c∈x
 | [],h=>by cases h
 | [x],h=>.inr ⟨x,.head _,h⟩
 | x::y::r,h=>by
   rcases List.mem_append.mp (show c∈(x++s)++aU s (y::r) from h) with h|h
   . rcases List.mem_append.mp h with h|h
     . exact .inr ⟨x,.head _,h⟩
     . exact .inl h
   . rcases kX h with h|⟨z,hz,h⟩
     . exact .inl h
     . exact .inr ⟨z,.tail _ hz,h⟩
theorem uF {s:List Nat} {m:Nat}:∀ {l:List (List Nat)},(∀ x∈l,x.length<=m)->(aU s l).length<=(m+s.length)*l.length
 | [],h=>by simp [aU]
 | [x],h=>by
   have:=h x (.head _);show x.length<=(m+s.length)*1;omega
 | x::y::r,h=>by
   have h1:=h x (.head _);have h2:=uF (s:=s) (l:=y::r) fun z hz=>h z (.tail _ hz);show ((x++s)++aU s (y::r)).length<=_;rw [List.length_append,List.length_append,List.length_cons (a:=x),Nat.mul_succ];omega
def wds (ns:List Nat):Str:=Str.join " " (ns.map FS)
theorem qv (ns:List Nat):(wds ns).cps.toList=aU [32] (ns.map gI):=by
 unfold wds;rw [cZ,List.map_map]
 rfl
theorem yf {ns:List Nat} {c:Nat} (h:c∈(wds ns).cps.toList):c=32\/(48<=c/\c<=57):=by
 rw [qv] at h;rcases kX h with h|⟨x,hx,h⟩
 . exact .inl (List.mem_singleton.mp h)
 . obtain ⟨n,_,rfl⟩:=List.mem_map.mp hx;exact .inr (gX n c h)
theorem z9 {ns:List Nat} (h:ns≠[]):Txt.split (wds ns) (Str.ofString " ")=ns.map FS :=
 mF (c:=32) (ys:=ns.map FS) (by simpa using h) fun y hy h=>by
   obtain ⟨n,_,rfl⟩:=List.mem_map.mp hy;have:=gX n 32 h;omega
def zNs (ns:List Nat):List Int:=ns.map fun n:Nat=>(n:Int)
theorem Dc (ns:List Nat):vNs ns=(zNs ns).map V.int:=(List.map_map ..).symm
theorem dQ (a b:Str):(a++b).length=a.length+b.length:=by
 rw [bq,app_list,List.length_append,<- bq,<- bq]
end Pb
set_option Elab.async false
set_option linter.all false
set_option maxRecDepth 100000
namespace L2
open PySem PySem.Spec PyProof.Rows PySem.W
theorem E8 {X:Cx} (K:PySem.W.Frag) (hK:X.K=K) {T:String} {name:Str} {id:String} {r:V->List V->Hp->VK->Prop} {o e:Expr} {es:List Expr} {to:TE} {t:TA} {apos cpos:Pos} (pa:PlainAttrs T) (slot:Slot T name id) (hty:typeOf (.builtin id)=pure (.type "method_descriptor")) (hm:MtR X id r) (ho:PE X o to) (ha:PA X (e::es) t)
   (hbase:attributeBase o name X.env (eval o X.env)=eval o X.env:=by rfl)
   (hfew:((backTo cpos (starEach (e::es) X.env)).all (fun x=>!x.1) && (backToKw cpos (keywordEach [] X.env)).all (fun x=>x.1.isSome)
     && decide ((e::es).length+([]:List Keyword).length+(if ([]:List Keyword).isEmpty then 0 else 1)<30))=true:=by rfl)
   (hline:(apos.endLine == cpos.line)=true:=by rfl) (hs:starEach (e::es) X.env=(false,eval e X.env)::starEach es X.env:=by rfl) (hplain:(backTo cpos (starEach es X.env)).any (·.1)=false:=by rfl) :
   PE X (.Call (.Attribute o name apos) (e::es) [] cpos) (tBM K T r to t):=by
 subst hK;exact dl pa slot hty hm ho ha hbase hfew hline hs hplain
end L2
namespace Pb
open L2 PySem PySem.W NumText
open PySem.StrLaws (At ChainG occ_tight partsBetween_eq partsFrom strSub_toList subAt_eq sub_whole)
section
variable {X:Str} {u c v:Nat}
theorem Aq {k:Nat}:At X ⟨#[u,c,v]⟩ X.length k↔((X.cps.toList.drop k).take 3=[u,c,v]):=by
 unfold At;rw [subAt_eq];have e3:(⟨#[u,c,v]⟩:Str).length=3:=rfl;rw [e3,show (⟨#[u,c,v]⟩:Str).cps.toList=[u,c,v] from rfl,beq_iff_eq,bq]
 constructor
 . exact fun h=>h.2
 . intro h;refine ⟨?_,h⟩;have:=congrArg List.length h;rw [List.length_take,List.length_drop,show [u,c,v].length=3 from rfl] at this;omega
theorem AU {k:Nat} (h:At X ⟨#[u,c,v]⟩ X.length k):X.cps.toList[k+1]?=some c:=by
 have:=congrArg (fun l=>l[1]?) (Aq.mp h)
 simpa using this
theorem A1 (uc:u≠c):∀ (L:List (List Nat)) (a:Nat) (cuts:List Nat) (f:Nat),L≠[]->(∀ p∈L,c ∉ p)->a<=X.length->X.cps.toList.drop a=aU [u,c,v] L->ChainG X ⟨#[u,c,v]⟩ X.length a cuts f->(∀ k,f<=k->¬ At X ⟨#[u,c,v]⟩ X.length k) ->
   (partsFrom X 3 a cuts).map (·.cps.toList)=L
 | [],_,_,_,h,_,_,_,_,_=>absurd rfl h
 | [p],a,cuts,f,_,hc,ha,e,ch,hn=>by
   cases cuts with
   | nil =>
     show [(Builtin.Str.strSub X a X.length).cps.toList]=[p];rw [strSub_toList,e,bq];have:=congrArg List.length e;rw [List.length_drop] at this;show [p.take _]=[p];rw [List.take_of_length_le];show (aU [u,c,v] [p]).length<=_;omega
   | cons d r =>
     have h1:=AU ch.2.1;have h2:(X.cps.toList.drop a)[d+1 - a]?=some c:=by
       rw [List.getElem?_drop,show a+(d+1 - a)=d+1 by have:=ch.1;omega];exact h1
     rw [e] at h2;exact absurd (List.mem_of_getElem? h2) (hc p (.head _))
 | p::p'::r,a,cuts,f,_,hc,ha,e,ch,hn=>by
   have e:X.cps.toList.drop a=p++[u,c,v]++aU [u,c,v] (p'::r):=e;have hat:At X ⟨#[u,c,v]⟩ X.length (a+p.length):=by
     rw [Aq,<- List.drop_drop,e,List.append_assoc,List.drop_left']
     . rfl
     . rfl
   cases cuts with
   | nil =>
     have ef:f=a:=ch;exact absurd hat (hn _ (by omega))
   | cons d rs =>
     obtain ⟨h1,h2,h3,h4⟩:=ch;have le:d<=a+p.length:=by
       refine Nat.le_of_not_lt fun lt=>?_;exact h3 (a+p.length) (by omega) lt hat
     have ge:a+p.length<=d:=by
       refine Nat.le_of_not_lt fun lt=>?_;have q1:=AU h2;have q2:(X.cps.toList.drop a)[d+1 - a]?=some c:=by
         rw [List.getElem?_drop,show a+(d+1 - a)=d+1 by omega];exact q1
       rw [e,List.append_assoc] at q2;by_cases z:d+1 - a<p.length
       . rw [List.getElem?_append_left z] at q2;exact hc p (.head _) (List.mem_of_getElem? q2)
       . rw [List.getElem?_append_right (by omega),show d+1 - a - p.length=0 by omega] at q2;exact uc (Option.some.inj q2)
     have ed:d=a+p.length:=(by omega);subst ed;have e2:X.cps.toList.drop (a+p.length+3)=aU [u,c,v] (p'::r):=by
       rw [Nat.add_assoc,<- List.drop_drop,e,List.drop_left'];simp
     have hx:a+p.length+3<=X.length:=h2.1;show (Builtin.Str.strSub X a (a+p.length)).cps.toList::(partsFrom X 3 (a+p.length+3) rs).map (·.cps.toList)=_;rw [A1 uc (p'::r) (a+p.length+3) rs f (by simp) (fun x hx=>hc x (.tail _ hx)) hx e2 h4 hn,strSub_toList,e,show a+p.length - a=p.length by omega,List.append_assoc,List.take_left']
     rfl
end
theorem vN:∀ {l l':List Str},l.map (·.cps.toList)=l'.map (·.cps.toList)->l=l'
 | [],[],_=>rfl
 | [],_::_,e=>by cases e
 | _::_,[],e=>by cases e
 | x::l,y::l',e=>by
   obtain ⟨h1,h2⟩:=List.cons.inj e;rw [jG h1,vN h2]
theorem E2 {u c v:Nat} (uc:u≠c) (hk:Builtin.Str.strKind ⟨#[u,c,v]⟩=1) {ys:List Str} (h:ys≠[]) (hc:∀ y∈ys,c ∉ y.cps.toList):Txt.split (Str.join ⟨#[u,c,v]⟩ ys) ⟨#[u,c,v]⟩=ys:=by
 refine vN ?_;have e:=cZ ⟨#[u,c,v]⟩ ys;generalize Str.join ⟨#[u,c,v]⟩ ys=X at e ⊢;obtain ⟨f,hG,hn⟩:=occ_tight X ⟨#[u,c,v]⟩ (by show 1<=3;decide);have go:∀ cuts,ChainG X ⟨#[u,c,v]⟩ X.length 0 cuts f->(partsFrom X 3 0 cuts).map (·.cps.toList)=ys.map (·.cps.toList):=fun cuts hG=>by
   refine A1 uc (ys.map (·.cps.toList)) 0 cuts f (by simpa using h) (fun p hp=>?_) (Nat.zero_le _) (by rw [List.drop_zero];exact e) hG hn;obtain ⟨y,hy,rfl⟩:=List.mem_map.mp hp;exact hc y hy
 have one:ChainG X ⟨#[u,c,v]⟩ X.length 0 [] f->([X]).map (·.cps.toList)=ys.map (·.cps.toList):=fun hG=>by
   rw [<- go [] hG];show [X.cps.toList]=[(Builtin.Str.strSub X 0 X.length).cps.toList];rw [sub_whole]
 unfold Txt.split;split
 . rename_i hc1
   refine one ?_;cases hoc:Builtin.Str.occurrences X ⟨#[u,c,v]⟩ 0 X.length (X.length+1) with
   | nil=>rw [hoc] at hG;exact hG
   | cons d r =>
     rw [hoc] at hG;have:=hG.2.1.1;have e3:(⟨#[u,c,v]⟩:Str).length=3:=rfl;rw [Bool.or_eq_true,decide_eq_true_eq,decide_eq_true_eq,hk] at hc1;have:1<=Builtin.Str.strKind X:=by
       unfold Builtin.Str.strKind;split
       . omega
       . split <;> omega
     omega
 . split
   . rename_i he
     rw [List.isEmpty_iff.mp he] at hG;exact one hG
   . rw [partsBetween_eq];exact go _ hG
def stx (ss:List (List Nat)):Str:=if ss=[] then Str.ofString "." else Str.join (Str.ofString " / ") (ss.map wds)
theorem nw {ss:List (List Nat)} (h:ss≠[]):(stx ss).cps.toList=aU [32,47,32] (ss.map fun ns=>(wds ns).cps.toList):=by
 unfold stx;rw [if_neg h,cZ,List.map_map]
 rfl
theorem D0 {ss:List (List Nat)} (h:ss≠[]) {c:Nat} (hc:c∈(stx ss).cps.toList):c=32\/(47<=c/\c<=57):=by
 rw [nw h] at hc;rcases kX hc with hc|⟨x,hx,hc⟩
 . simp at hc;omega
 . obtain ⟨ns,_,rfl⟩:=List.mem_map.mp hx;have:=yf hc;omega
theorem Ej {ss:List (List Nat)} (h:ss≠[]):stx ss≠Str.ofString ".":=fun e=>by
 have:=D0 h (c:=46) (by rw [e];exact .head _);omega
theorem Af {ss:List (List Nat)} (h:ss≠[]):Txt.split (stx ss) (Str.ofString " / ")=ss.map wds:=by
 unfold stx;rw [if_neg h];exact E2 (u:=32) (c:=47) (v:=32) (by decide) (by simp [Builtin.Str.strKind]) (by simpa using h) fun y hy hc=>by
   obtain ⟨ns,_,rfl⟩:=List.mem_map.mp hy;have:=yf hc;omega
end Pb
set_option Elab.async false
set_option linter.all false
set_option maxRecDepth 100000
namespace L2
open PySem PySem.Spec PyProof.Rows PySem.W
end L2
namespace Pb
open L2 PySem PySem.W NumText
end Pb
set_option Elab.async false
set_option linter.all false
set_option maxRecDepth 100000
namespace Pb
open L2 PySem
section
variable {m:Int} {rs:List Road} {r:Int} {par:Int->Int} {dep:Int->Nat} {held:Int->Int}
end
end Pb
set_option Elab.async false
set_option linter.all false
set_option maxRecDepth 100000
namespace L2
open PySem PySem.Spec PyProof.Rows
section
variable {prog:Program} {w:World} {A:Around} {E:Value->Shared->Prop} {R:Result->Shared->Prop} {s:Shared}
theorem oh {elt target iter:Expr} {ifs:List Expr} {scope:Scope} {pos:Pos} {it acc:Value} {env:Env} (I:Nat->Shared->Prop)
   (turn:∀ n s,I n s->wpAny (model prog w) A (pyNext it) (fun r s₁=>match r with
     | none=>R (.ok .next) s₁
     | some v=>wpAny (model prog w) A (letOwnedTupleGo target it v) (fun _ s₁'=>wpAny (model prog w) A (assign target env v) (fun _ s₂ =>
         wpAny (model prog w) A (forIn ifs true fun c r=>if r=true then do let ok <- isTrue c env (eval c env);pure (ForInStep.yield ok) else pure (ForInStep.yield r)) (fun ok s₃ =>
           if ok=true then wpAny (model prog w) A (eval elt env) (fun x s₄ =>
             wpAny (model prog w) A (call (.builtin "list.append") [acc,x]) (fun _ s₅=>∃ m,m<n/\I m s₅) (fun _ _=>False) s₄) (notedBy (model prog w) A env fun e s'=>R (.error e) s') s₃
           else ∃ m,m<n/\I m s₃) (fun _ _=>False) s₂) (fun _ _=>False) s₁') (fun _ _=>False) s₁) (fun _ _=>False) s)
   (n:Nat) (h:I n s) :
   codeAny (model prog w) A (.compLoop (.ListComp elt [⟨target,iter,ifs,0⟩] scope pos) 0 it acc env) R s:=by
 refine codeAny_loop rfl I (fun n s hI=>?_) n h;show wpAny _ A ((compTurn (.ListComp elt [⟨target,iter,ifs,0⟩] scope pos) 0 it acc env).onRaise (fun x=>do noteFrame x env;theTreesLotGoes x)) _ _ s;refine wpAny_noted ?_;rw [compTurn_list];refine wpAny_bind (wpAny_standAt (wpAny_bind (wpAny_mono (turn n s hI) (fun r s₁ h₁=>?_) fun _ _ h'=>h'.elim)));cases r with
 | none=>exact wpAny_pure h₁
 | some v =>
   refine wpAny_bind (wpAny_mono h₁ (fun _ s₁' h₁'=>?_) fun _ _ h'=>h'.elim);refine wpAny_bind (wpAny_mono h₁' (fun _ s₂ h₂=>wpAny_bind (wpAny_mono h₂ (fun ok s₃ h₃=>?_) fun _ _ h'=>h'.elim)) fun _ _ h'=>h'.elim);cases ok with
   | true =>
     rw [if_pos rfl] at h₃;simp only [if_true];exact wpAny_bind (wpAny_bind (wpAny_mono h₃ (fun x s₄ h₄=>wpAny_bind (wpAny_mono h₄ (fun _ s₅ h₅=>wpAny_pure (wpAny_pure ⟨rfl,h₅⟩)) fun _ _ h'=>h'.elim)) fun _ _ h'=>h'))
   | false =>
     rw [if_neg Bool.false_ne_true] at h₃;simp only [Bool.false_eq_true,if_false]
     first
       | exact wpAny_pure ⟨rfl,h₃⟩
       | exact wpAny_bind (wpAny_pure (wpAny_pure ⟨rfl,h₃⟩))
end
section
variable {M:Model} {A:Around} {E:Value->Shared->Prop} {s:Shared} {Q:Unit->Shared->Prop} {fs:List Addr} {ea T L:Addr} {cls fl hd:Value} {od:Option Addr} {base:Heap} {env:Env} {outer:List Env}
theorem CQ {e:Value} {env env':Env} (h:env'.frame=env.frame):noteFrame e env'=noteFrame e env:=by
 unfold noteFrame PySem.frameOf;rw [h]
theorem DY {fr:Option Addr} (r:Err s.heap ea T cls od fl) (h:∀ h' fl',Err h' ea T cls od fl'->Kept fs [T] s.heap h'->Q () { s with heap:=h' }):wpAny M A (setFlight (.ref ea) fr) Q E s:=by
 obtain ⟨⟨oe,vs,h1,h2,h3,h4,h5,h6⟩,⟨oT,ts,t1,t2,t3⟩,ne⟩:=r;have sz:3<ts.size:=(Array.getElem?_eq_some_iff.mp t3).1;unfold setFlight;refine wpAny_bind (wpAny_field h1 h4 h5 ?_);rw [if_pos (by simp:(Value.ref T != Value.none)=true)];refine wpAny_setField t1 t2 sz (h _ (fr.elim .none fun f=>rawInt f) ⟨jF ⟨oe,vs,h1,h2,h3,h4,h5,h6⟩ ne,⟨_,_,Heap.get?_update_self _ t1 (Obj.isFreed_of_fields (Obj.data_mapFields t2 _)),Obj.data_mapFields t2 _,by simp [sz]⟩,ne⟩ (ky t1 t2 (by simp)))
theorem Cn (hfr:A.frames=some (env::outer)) (hl:s.heap.FunFrames base (env::outer)) (hf:env.frame=some L) (r:Err s.heap ea T cls od fl)
   (h:∀ h' T' fl',Err h' ea T' cls od fl'->Kept (frs (env::outer)) [ea,T] s.heap h'->(T'=T\/s.heap.get? T'=none)->Q () { s with heap:=h' }):wpAny M A (noteFrame (.ref ea) env) Q E s:=by
 have nT:=wO r.t hl;obtain ⟨⟨oe,vs,e1,e2,e3,e4,e5,e6⟩,⟨oT,ts,t1,t2,t3⟩,ne⟩:=id r;unfold noteFrame;simp only [hf];refine wpAny_bind (wpAny_field e1 e4 e5 ?_);rw [if_pos (by simp:(Value.ref T != Value.none)=true)];refine wpAny_bind (wpAny_field t1 t2 t3 ?_);by_cases z0:(fl == rawInt L)=true
 . rw [if_pos z0];exact wpAny_pure (h s.heap T fl r (Kept.of_all fun b o e=>e) (.inl rfl))
 rw [if_neg z0];have k1:Kept (frs (env::outer)) [ea,T] s.heap (s.heap.update T (Obj.mapFields (·.setIfInBounds 3 Value.none))):=ky t1 t2 (by simp);refine wpAny_bind (wpAny_setField t1 t2 (Array.getElem?_eq_some_iff.mp t3).1 ?_);refine qK hfr (hl.of_keeps fun b o e nf=>⟨o,?_,rfl⟩) hf (jF r.e ne) fun h' T' r' k2 n=>h h' T' _ r' (k1.trans (k2.mono (by simp))) (.inr ?_)
 . by_cases z:b=T
   . subst z;rw [t1] at e;cases e;exact absurd t2 (nf ts)
   . rw [Heap.get?_update_other _ _ (Ne.symm z)];exact e
 . cases q:s.heap.get? T' with
   | none=>rfl
   | some o =>
     obtain ⟨o',z⟩:=k1.there T' o q;rw [z] at n;cases n
theorem z8 (hfr:A.frames=some (env::outer)) (hl:s.heap.FunFrames base (env::outer)) (hf:env.frame=some L) (r:Err s.heap ea T cls od fl)
   (h:∀ h' T',Err h' ea T' cls od .none->Kept (frs (env::outer)) [ea,T] s.heap h'->(T'=T\/s.heap.get? T'=none)->Q () { s with heap:=h' }):wpAny M A (leaving env (.ref ea)) Q E s:=by
 unfold leaving;have nl:∀ {T1 b:Addr} {o:Obj},(T1=T\/s.heap.get? T1=none)->s.heap.get? b=some o->b ∉ [ea,T]->b ∉ [T1]:=fun {T1 b o} d e x z=>by
   rw [List.mem_singleton.mp z] at e x;rcases d with rfl|d
   . exact x (by simp)
   . rw [d] at e;cases e
 refine wpAny_bind (Cn hfr hl hf r fun h1 T1 fl1 r1 k1 n1=>l4 (fs:=frs (env::outer)) (s:={ s with heap:=h1 }) r1 fun h2 r2 k2=>h h2 T1 r2 ⟨fun b o e f x=>k2.keep b o (k1.keep b o e f x) f (nl n1 e x),fun b o e f x=>?_,fun b o e=>?_⟩ n1)
 . obtain ⟨s1,e1⟩:=k1.slot b o e f x;obtain ⟨s2,e2⟩:=k2.slot b _ e1 f (nl n1 e x);exact ⟨s2,e2⟩
 . obtain ⟨o1,e1⟩:=k1.there b o e;exact k2.there b o1 e1
end
def pH (X:Cx) (E:XK):Prop:=∀ (pins:List (Addr × Obj)) (σ:St) (H:Hp) (s:Shared) (ea T:Addr) (cls:Value) (od:Option Addr) (fl:Value),Inv X pins σ H s->Err s.heap ea T cls od fl->Loose X pins H ea->Loose X pins H T->E cls od H->X.xe (.ref ea) s
section
variable {P:Program} {w:World} {K:PySem.W.Frag} {mg:Str->Option Value} {base:Heap} {N:List Str} {qual:Str} {scope:Scope} {f:Addr} {cd:Value} {A:Around} {outer:List Env} {s:Shared} {H:Hp} {E:XK}
theorem zD:pH (ig (CXe P w) P w K mg base N qual scope f cd A outer s H E) E:=by
 intro pins σ H1 s1 ea T cls od fl J er le lt q;refine z8 (base:=base) J.ok.frames J.stack rfl er fun h' T' er' k nT=>?_;have fr:∀ b∈frs (envOfC qual scope s.heap.objs.size f cd::outer),H1 b=none:=J.stkFree;have tu:H1 T'=none/\s.heap.get? T'=none:=by
   rcases nT with rfl|nT
   . exact ⟨lt.un,lt.new⟩
   . exact ⟨qo J.hok nT,jL J nT⟩
 refine ⟨ea,T',cls,od,H1,rfl,J.os,J.bare,qm J k ?_,m3 J.hok k fr ?_,le.un,tu.1,le.new,tu.2,er',q⟩
 . intro b hb;simp only [List.mem_cons,List.not_mem_nil,or_false] at hb;rcases hb with rfl|rfl
   . exact le.new
   . exact lt.new
 . intro b hb;simp only [List.mem_cons,List.not_mem_nil,or_false] at hb;rcases hb with rfl|rfl
   . exact le.un
   . exact lt.un
end
section
variable {X:Cx} {Nc:List Str} {own:Nat} {js:List Nat} {scope:Scope} {cl:List (Str × Addr)}
theorem uS {pins:List (Addr × Obj)} {σ σ':St} {H₁:Hp} {s₂ s':Shared} {C:Addr} {fp:List Addr} {h5:Heap} {E:XK} {e acc:Value} {use:Option (Value->Sem Unit)} {Q:Value->Shared->Prop} {D:Addr->Obj->Prop}
   (hx:X.ex=[]) (hst:X.stack=X.env::X.outer) (hf:X.env.frame=some X.env.locals) (hp:pH X E) (I:Inv X pins σ H₁ s₂) (hC:s₂.heap.objs.size<=C) (f1:∀ b∈fp,gK X pins H₁ b)
   (ob:∀ b∈fp,∃ o,h5.get? b=some o/\D b o) (z:XP (CXe X.prog X.w) (X.comp Nc scope cl C s₂ H₁ fp) ([]++dW fp h5) σ' E e s') :
   notedBy (model X.prog X.w) X.A (compEnvC scope cl C X.env) (fun x s''=>compPost (model X.prog X.w) X.A X.xe use Q acc C (.error x) s'') e s':=by
 obtain ⟨H7,s7,I7,ea,T,cls,od,H',rfl,os,bare,un,hok,n1,n2,g1,g2,er,q⟩:=z;have J:=I7.call' (ch:=[]) os un hok bare (by simp);have fresh:∀ {s8:Shared} {H8:Hp},Inv (X.comp Nc scope cl C s₂ H₁ fp) ([]++dW fp h5) σ' H8 s8->∀ b,s8.heap.get? b=none->H' b=none->Loose (X.comp Nc scope cl C s₂ H₁ fp) ([]++dW fp h5) H' b:=fun {s8 H8} I8 b z u=>by
   obtain ⟨a1,a2,a3⟩:=I8.apart z;refine ⟨u,?_,a1,a2,a3⟩;rcases I8.young z with y|y
   . exact y
   . obtain ⟨o,eo,_⟩:=ob b y;exact absurd rfl (a3 (b,o) (List.mem_append_right _ (List.mem_append_right _ (b9 y eo))))
 have le:=fresh I7 ea g1 n1;have lt:=fresh I7 T g2 n2;have fr:=J.ok.frames;have st:=J.stack;replace fr:X.A.frames=some X.stack:=fr;replace st:s'.heap.FunFrames X.base X.stack:=st;rw [hst] at fr st;show wpAny _ _ (noteFrame (.ref ea) (compEnvC scope cl C X.env)) _ _ s';rw [CQ (env:=X.env) (env':=compEnvC scope cl C X.env) rfl];refine tU fr st hf er fun h2 T2 er2 k2 nT2=>?_;rw [<- hst] at k2;have J2:Inv (X.comp Nc scope cl C s₂ H₁ fp) ([]++dW fp h5) σ' H' { s' with heap:=h2 }:=J.moved (tk:=s'.toks) k2 fun b hb=>by
   simp only [List.mem_cons,List.not_mem_nil,or_false] at hb;rcases hb with rfl|rfl
   . exact le.all
   . exact lt.all
 have lt2:=fresh J T2 nT2 (qo hok nT2);obtain ⟨m,hn,_⟩:=id J2.loc;have goal:∃ m,h2.Ns C m/\∀ h',Heap.SameBut C h2 h'->∀ cenv:Env,cenv.locals=C->wpAny (model X.prog X.w) X.A (passOn "comprehension.variables-let-go" (.ref ea) cenv:Sem Value) (fun _ _=>False) X.xe { s' with heap:=h' }:=by
   refine ⟨m,hn,fun h3 hs3 cenv _=>?_⟩;have J3:Inv X pins σ H' { s' with heap:=h3 }:=iZ (s':={ s' with heap:=h2 }) I hC f1 J2.unpinned hs3;have wide:∀ b,Loose (X.comp Nc scope cl C s₂ H₁ fp) ([]++dW fp h5) H' b->Loose X pins H' b:=fun b l=>by
     obtain ⟨a1,a2,a3⟩:=I.apart l.new;refine ⟨l.un,?_,a1,a2,a3⟩;rcases I.young l.new with y|y
     . exact y
     . rw [hx] at y;cases y
   have k3:∀ b o,b≠C->h2.get? b=some o->h3.get? b=some o:=fun b o n e=>hs3.extBut b o n e;have er3:Err h3 ea T2 cls od (rawInt X.env.locals):=by
     obtain ⟨⟨oe,vs,a1,a2⟩,⟨oT,ts,b1,b2⟩,ne⟩:=er2;exact ⟨⟨oe,vs,k3 _ _ le.loc a1,a2⟩,⟨oT,ts,k3 _ _ lt2.loc b1,b2⟩,ne⟩
   obtain ⟨⟨oe,vs,a1,a2,a3,a4,a5,a6⟩,_,_⟩:=id er3;unfold PySem.passOn;refine wpAny_bind (wpAny_field (s:={ s' with heap:=h3 }) a1 a4 a5 ?_);rw [if_neg (by simp)];refine wpAny_bind (DY (fs:=frs X.stack) (s:={ s' with heap:=h3 }) er3 fun h4 fl4 er4 k4=>?_);have J4:Inv X pins σ H' { s' with heap:=h4 }:=J3.moved (tk:=s'.toks) k4 fun b hb=>by rw [List.mem_singleton.mp hb];exact (wide _ lt2).all
   exact wpAny_throw (hp pins σ H' { s' with heap:=h4 } ea T2 cls od fl4 J4 er4 (wide _ le) (wide _ lt2) q)
 cases use with
 | none=>exact goal
 | some u=>exact goal
end
section
variable {X:Cx} {Nc:List Str} {own:Nat} {js:List Nat} {scope:Scope} {cl:List (Str × Addr)}
theorem BI {elt target iter:Expr} {ifs:List Expr} {pos:Pos} {wi:TI} {g:TG} {tc:TT} {ex:XK->TE} {E:XK} (hx:X.ex=[]) (hst:X.stack=X.env::X.outer) (hf:X.env.frame=some X.env.locals) (hp:pH X E) (hc:X.calm=true) (T:CompTxt X Nc own js scope cl)
   (hi:PI X target iter wi) (hg:∀ C s₂ H₁ fp,PG (X.comp Nc scope cl C s₂ H₁ fp) target g) (ht:∀ C s₂ H₁ fp,PTs (X.comp Nc scope cl C s₂ H₁ fp) ifs tc)
   (he:∀ C s₂ H₁ fp,PEx (CXe X.prog X.w) (X.comp Nc scope cl C s₂ H₁ fp) elt ex) (hs:∀ x,foldedSetIterable iter X.env x=pure x:=by intro _;rfl) :
   PE X (.ListComp elt [⟨target,iter,ifs,0⟩] scope pos) (rz own js wi g tc (ex E)):=by
 intro pins s σ H Q I h;rw [eval_ListComp];refine wpAny_comprehension_free (use:=none) rfl hs T.clos T.kind T.names (thn (hi pins s σ H _ I h) fun v s1 h1=>thn h1 fun itv s2 h2=>?_);obtain ⟨it,fp,tn,J,H1,rfl,I1,Tn,st,f1,R⟩:=h2;have hfp:∀ b∈fp,b<s2.heap.objs.size:=fun b hb=>let ⟨o,e,_⟩:=Tn.obj _ _ st b hb;Heap.lt_size e;refine wpAny_newObj_type (wpAny_newFunctionEnv T.nocell (by intro y hy;simp at hy) (fun h₁ hns₁ hsb₁=>?_) T.kind);dsimp only at hns₁ hsb₁ ⊢;generalize hH2:s2.heap.push { cls:=.type "list",dict:=none,data:=.seq ([]:List Value).toArray }=H2 at hns₁ hsb₁ ⊢;have hC:H2.objs.size=s2.heap.objs.size+1:=by rw [<- hH2,Heap.size_push]
 have hDC:s2.heap.objs.size≠H2.objs.size:=by rw [hC];exact Nat.ne_of_lt (Nat.lt_succ_self _)
 have hCle:s2.heap.objs.size<=H2.objs.size:=by rw [hC];exact Nat.le_succ _
 have below:∀ b,b<s2.heap.objs.size->b≠H2.objs.size:=fun b hb=>by rw [hC];exact Nat.ne_of_lt (Nat.lt_succ_of_lt hb)
 have old:∀ b o,s2.heap.get? b=some o->h₁.get? b=some o:=fun b o e=>hsb₁.extBut b o (below b (Heap.lt_size e)) (Heap.get?_push_of_some _ (hH2 ▸ Heap.get?_push_of_some _ e));have hacc:∃ n,h₁.get? s2.heap.objs.size=some { cls:=.type "list",data:=.seq ([]:List Value).toArray n }:=⟨_,hsb₁.extBut _ _ hDC (Heap.get?_push_of_some _ (hH2 ▸ Heap.get?_push_size _ rfl))⟩;have st₁:tn 0 h₁:=Tn.keep _ _ _ st fun b _ o e=>old b o e;obtain ⟨W,⟨m0,w0⟩,turn⟩:=R s2.heap.objs.size I1.fresh;have Ic:=nA (t:=s2.toks+([]:List (Str × Value)).length) T I1 hCle (Nat.le_refl _) hDC f1 hfp old hns₁ hacc;generalize hXc:X.comp Nc scope cl H2.objs.size s2 H1 fp=Xc at Ic;have stat:∀ {H':Hp},(∀ b∈fp,H' b=none)->∀ b∈fp,gK Xc [] H' b:=fun {H'} hn b hb=>by
   subst hXc;exact ⟨hn b hb,below b (hfp b hb),(lQ T I1 hCle f1 hfp).exfs b hb,.inl hb,fun x c e=>(f1 b hb).2.2.2.2.1 x c (T.cells x c e),fun p hp=>by cases hp⟩
 have fr0:∀ b∈fp,upd H1 s2.heap.objs.size (.lst []) b=none:=fun b hb=>by
   rw [am (Nat.ne_of_lt (hfp b hb))];exact (f1 b hb).1
 have calmc:Xc.calm=true:=by subst hXc;exact hc
 have loop:∀ s₃:Shared,s₃={ s2 with heap:=h₁,toks:=s2.toks+([]:List (Str × Value)).length } ->
     codeAny (model X.prog X.w) X.A (.compLoop (.ListComp elt [⟨target,iter,ifs,0⟩] scope pos) 0 (.ref it) (.ref s2.heap.objs.size) (compEnvC scope cl H2.objs.size X.env))
       (compPost (model X.prog X.w) X.A X.xe none (EP X pins σ Q) (.ref s2.heap.objs.size) H2.objs.size) s₃:=by
   rintro s₃ rfl;refine oh (fun n s'=>∃ i ys σ' H',Inv Xc [] σ' H' s'/\tn i s'.heap/\(∀ b∈fp,H' b=none)/\W i n ys σ' H') ?_ m0 ⟨0,[],_,_,Ic,st₁,fr0,w0⟩;rintro n s3 ⟨i,ys,σ3,H3,I3,st3,fr3,w3⟩;rcases turn i n ys σ3 H3 w3 with ⟨stop,q⟩|⟨go,step⟩
   . subst hXc;refine thn (Tn.done (X.comp Nc scope cl H2.objs.size s2 H1 fp) rfl rfl rfl hc i [] s3 σ3 H3 _ I3 (stat fr3) st3 stop) fun r s4 ⟨hr,I4⟩=>?_;subst hr;obtain ⟨m4,hn4,_⟩:=id I4.loc;exact ⟨m4,hn4,fun h' hs'=>⟨.ref s2.heap.objs.size,H3,iZ I1 hCle f1 I4 hs',rfl,q⟩⟩
   . subst hXc;refine thn (Tn.item (X.comp Nc scope cl H2.objs.size s2 H1 fp) rfl rfl rfl hc i [] s3 σ3 H3 _ I3 (stat fr3) st3 go) fun r s4 ⟨u,hr,h4⟩=>?_;subst hr;refine thn h4 fun _ s5 ⟨x,H5,I5,r5,y5,st5,fr5⟩=>?_;have I5':=I5.pinned (stat fr5) (Tn.obj _ _ st5);have back:∀ {σ7:St} {H7:Hp} {s7:Shared},Inv (X.comp Nc scope cl H2.objs.size s2 H1 fp) ([]++dW fp s5.heap) σ7 H7 s7->Inv (X.comp Nc scope cl H2.objs.size s2 H1 fp) [] σ7 H7 s7/\tn (i+1) s7.heap/\∀ b∈fp,H7 b=none:=fun {σ7 H7 s7} I7=>by
       refine ⟨I7.unpinned,Tn.keep _ _ _ st5 fun b hb o e=>(I7.pin (b,o) (List.mem_append_right _ (List.mem_append_right _ (b9 hb e)))).1,fun b hb=>?_⟩;obtain ⟨o,e,d⟩:=Tn.obj _ _ st5 b hb;exact (I7.pin (b,o) (List.mem_append_right _ (List.mem_append_right _ (b9 hb e)))).2.1
     refine thn (hg _ _ _ _ _ s5 σ3 H5 x u _ I5' r5 (step x H5 y5)) fun _ s6 ⟨σ6,H6,I6,q6⟩=>?_;refine oG (ht _ _ _ _ _ s6 σ6 H6 _ I6 q6) fun ok s7 H7 I7 q7=>?_;cases ok with
     | false =>
       rw [if_neg Bool.false_ne_true] at q7 ⊢;obtain ⟨m',hm,w7⟩:=q7;obtain ⟨J1,J2,J3⟩:=back I7;exact ⟨m',hm,i+1,ys,σ6,H7,J1,J2,J3,w7⟩
     | true =>
       rw [if_pos rfl] at q7 ⊢;refine wpAny_mono (he _ _ _ _ E _ s7 σ6 H7 _ I7 q7) (fun y s8 ⟨yv,H8,I8,r8,hp8,hl8,m',hm,w8⟩=>?_) fun e s8 z=>uS hx hst hf hp I1 hCle f1 (Tn.obj _ _ st5) z;refine thn (c7 _ s8 σ6 H8 (.ref s2.heap.objs.size) [yv] _ [y] (fun v' H'=>W (i+1) m' (ys++[yv]) σ6 H') I8 rfl (.cons r8 .nil) ⟨_,ys,yv,rfl,rfl,hp8,hl8,w8⟩) fun v9 s9 ⟨_,H9,I9,_,w9⟩=>?_;obtain ⟨J1,J2,J3⟩:=back I9;exact ⟨m',hm,i+1,ys++[yv],σ6,H9,J1,J2,J3,w9⟩
 exact codeAny_compStart_list (loop _ rfl) (Tn.self _ 0 _ _ _ st₁ (loop _ rfl))
theorem pN {i:Nat} {x:Str} {px pos:Pos} {elt target iter:Expr} {ifs:List Expr} {cpos:Pos} {wi:TI} {g:TG} {tc:TT} {ex:XK->TE} {E:XK} (hx:X.ex=[]) (hst:X.stack=X.env::X.outer) (hf:X.env.frame=some X.env.locals) (hp:pH X E) (hN:X.N.Nodup) (hxi:X.N[i]?=some x) (hxl:X.env.scope.names.lookup x=some .local) (hc:X.calm=true) (T:CompTxt X Nc own js scope cl)
   (hi:PI X target iter wi) (hg:∀ C s₂ H₁ fp,PG (X.comp Nc scope cl C s₂ H₁ fp) target g) (ht:∀ C s₂ H₁ fp,PTs (X.comp Nc scope cl C s₂ H₁ fp) ifs tc)
   (he:∀ C s₂ H₁ fp,PEx (CXe X.prog X.w) (X.comp Nc scope cl C s₂ H₁ fp) elt ex) (hs:∀ x,foldedSetIterable iter X.env x=pure x:=by intro _;rfl)
   (hsw:swapsWith (.ListComp elt [⟨target,iter,ifs,0⟩] scope cpos) (some (.Name x px)) pos.line X.env=pure true:=by rfl) :
   PS X (.Assign [.Name x px] (.ListComp elt [⟨target,iter,ifs,0⟩] scope cpos) pos) (tM (rz own js wi g tc (ex E)) (pF i)):=by
 intro pins s σ H D I h;rw [exec_Assign_Name_used _ _ _ _ hsw];refine wpAny_bind (wpAny_standAt (wpAny_bind ?_));rw [arm_evalThenUse_ListComp];refine wpAny_bind ?_;refine wpAny_comprehension_free (use:=some (assign (.Name x px) X.env)) rfl hs T.clos T.kind T.names (thn (hi pins s σ H _ I h) fun v s1 h1=>thn h1 fun itv s2 h2=>?_);obtain ⟨it,fp,tn,J,H1,rfl,I1,Tn,st,f1,R⟩:=h2;have hfp:∀ b∈fp,b<s2.heap.objs.size:=fun b hb=>let ⟨o,e,_⟩:=Tn.obj _ _ st b hb;Heap.lt_size e;refine wpAny_newObj_type (wpAny_newFunctionEnv T.nocell (by intro y hy;simp at hy) (fun h₁ hns₁ hsb₁=>?_) T.kind);dsimp only at hns₁ hsb₁ ⊢;generalize hH2:s2.heap.push { cls:=.type "list",dict:=none,data:=.seq ([]:List Value).toArray }=H2 at hns₁ hsb₁ ⊢;have hC:H2.objs.size=s2.heap.objs.size+1:=by rw [<- hH2,Heap.size_push]
 have hDC:s2.heap.objs.size≠H2.objs.size:=by rw [hC];exact Nat.ne_of_lt (Nat.lt_succ_self _)
 have hCle:s2.heap.objs.size<=H2.objs.size:=by rw [hC];exact Nat.le_succ _
 have below:∀ b,b<s2.heap.objs.size->b≠H2.objs.size:=fun b hb=>by rw [hC];exact Nat.ne_of_lt (Nat.lt_succ_of_lt hb)
 have old:∀ b o,s2.heap.get? b=some o->h₁.get? b=some o:=fun b o e=>hsb₁.extBut b o (below b (Heap.lt_size e)) (Heap.get?_push_of_some _ (hH2 ▸ Heap.get?_push_of_some _ e));have hacc:∃ n,h₁.get? s2.heap.objs.size=some { cls:=.type "list",data:=.seq ([]:List Value).toArray n }:=⟨_,hsb₁.extBut _ _ hDC (Heap.get?_push_of_some _ (hH2 ▸ Heap.get?_push_size _ rfl))⟩;have st₁:tn 0 h₁:=Tn.keep _ _ _ st fun b _ o e=>old b o e;obtain ⟨W,⟨m0,w0⟩,turn⟩:=R s2.heap.objs.size I1.fresh;have Ic:=nA (t:=s2.toks+([]:List (Str × Value)).length) T I1 hCle (Nat.le_refl _) hDC f1 hfp old hns₁ hacc;generalize hXc:X.comp Nc scope cl H2.objs.size s2 H1 fp=Xc at Ic;have stat:∀ {H':Hp},(∀ b∈fp,H' b=none)->∀ b∈fp,gK Xc [] H' b:=fun {H'} hn b hb=>by
   subst hXc;exact ⟨hn b hb,below b (hfp b hb),(lQ T I1 hCle f1 hfp).exfs b hb,.inl hb,fun x c e=>(f1 b hb).2.2.2.2.1 x c (T.cells x c e),fun p hp=>by cases hp⟩
 have fr0:∀ b∈fp,upd H1 s2.heap.objs.size (.lst []) b=none:=fun b hb=>by
   rw [am (Nat.ne_of_lt (hfp b hb))];exact (f1 b hb).1
 have calmc:Xc.calm=true:=by subst hXc;exact hc
 have loop:∀ s₃:Shared,s₃={ s2 with heap:=h₁,toks:=s2.toks+([]:List (Str × Value)).length } ->
     codeAny (model X.prog X.w) X.A (.compLoop (.ListComp elt [⟨target,iter,ifs,0⟩] scope cpos) 0 (.ref it) (.ref s2.heap.objs.size) (compEnvC scope cl H2.objs.size X.env))
       (compPost (model X.prog X.w) X.A X.xe (some (assign (.Name x px) X.env)) (fun _ s'=>wpAny (model X.prog X.w) X.A (pure ()) (fun _ s''=>wpAny (model X.prog X.w) X.A (pure Flow.next) (SP X pins D) X.xe s'') X.xe s') (.ref s2.heap.objs.size) H2.objs.size) s₃:=by
   rintro s₃ rfl;refine oh (fun n s'=>∃ i ys σ' H',Inv Xc [] σ' H' s'/\tn i s'.heap/\(∀ b∈fp,H' b=none)/\W i n ys σ' H') ?_ m0 ⟨0,[],_,_,Ic,st₁,fr0,w0⟩;rintro n s3 ⟨i,ys,σ3,H3,I3,st3,fr3,w3⟩;rcases turn i n ys σ3 H3 w3 with ⟨stop,q⟩|⟨go,step⟩
   . subst hXc;refine thn (Tn.done (X.comp Nc scope cl H2.objs.size s2 H1 fp) rfl rfl rfl hc i [] s3 σ3 H3 _ I3 (stat fr3) st3 stop) fun r s4 ⟨hr,I4⟩=>?_;subst hr;obtain ⟨m4,hn4,_⟩:=id I4.loc;have J:=iZ I1 hCle f1 I4 (h':=s4.heap) (Heap.SameBut.refl _ _);have cl0:H2.objs.size≠X.env.locals:=Nat.ne_of_gt (Nat.lt_of_lt_of_le I1.lt hCle);have cy:X.s₀.heap.objs.size<=H2.objs.size:=Nat.le_trans I1.sz hCle;have cc:∀ y c,X.env.cells.lookup y=some c->c≠H2.objs.size:=fun y c e=>by
       obtain ⟨v',o',ho',_⟩:=I1.cell y c e;exact Nat.ne_of_lt (Nat.lt_of_lt_of_le (Heap.lt_size ho') hCle)
     have cp:∀ p∈X.pn++pins,p.1≠H2.objs.size:=fun p hp=>by
       obtain ⟨ho',_⟩:=I1.pin p hp;exact Nat.ne_of_lt (Nat.lt_of_lt_of_le (Heap.lt_size ho') hCle)
     refine wA (oV (v:=.ref s2.heap.objs.size) J hN hxi (.inl hxl) rfl (fun s5 I5 ⟨ad,sb,had⟩=>?_) (.inr hxl));have nad:H2.objs.size≠ad:=by
       rcases had with rfl|had
       . exact cl0
       . exact (cc _ _ had).symm
     obtain ⟨oo,es,ep,e1,e2⟩:=hn4;refine ⟨m4,⟨oo,es,ep,(sb.2 _ nad).trans e1,e2⟩,fun h' hs'=>wpAny_pure (wpAny_pure ⟨_,H3,?_,q⟩)⟩;exact I5.turned (it:=H2.objs.size) (t':=s5.toks) (fun b o n e=>hs'.extBut b o n e) I4.free cl0 (.inr cy) cc cp
   . subst hXc;refine thn (Tn.item (X.comp Nc scope cl H2.objs.size s2 H1 fp) rfl rfl rfl hc i [] s3 σ3 H3 _ I3 (stat fr3) st3 go) fun r s4 ⟨u,hr,h4⟩=>?_;subst hr;refine thn h4 fun _ s5 ⟨x,H5,I5,r5,y5,st5,fr5⟩=>?_;have I5':=I5.pinned (stat fr5) (Tn.obj _ _ st5);have back:∀ {σ7:St} {H7:Hp} {s7:Shared},Inv (X.comp Nc scope cl H2.objs.size s2 H1 fp) ([]++dW fp s5.heap) σ7 H7 s7->Inv (X.comp Nc scope cl H2.objs.size s2 H1 fp) [] σ7 H7 s7/\tn (i+1) s7.heap/\∀ b∈fp,H7 b=none:=fun {σ7 H7 s7} I7=>by
       refine ⟨I7.unpinned,Tn.keep _ _ _ st5 fun b hb o e=>(I7.pin (b,o) (List.mem_append_right _ (List.mem_append_right _ (b9 hb e)))).1,fun b hb=>?_⟩;obtain ⟨o,e,d⟩:=Tn.obj _ _ st5 b hb;exact (I7.pin (b,o) (List.mem_append_right _ (List.mem_append_right _ (b9 hb e)))).2.1
     refine thn (hg _ _ _ _ _ s5 σ3 H5 x u _ I5' r5 (step x H5 y5)) fun _ s6 ⟨σ6,H6,I6,q6⟩=>?_;refine oG (ht _ _ _ _ _ s6 σ6 H6 _ I6 q6) fun ok s7 H7 I7 q7=>?_;cases ok with
     | false =>
       rw [if_neg Bool.false_ne_true] at q7 ⊢;obtain ⟨m',hm,w7⟩:=q7;obtain ⟨J1,J2,J3⟩:=back I7;exact ⟨m',hm,i+1,ys,σ6,H7,J1,J2,J3,w7⟩
     | true =>
       rw [if_pos rfl] at q7 ⊢;refine wpAny_mono (he _ _ _ _ E _ s7 σ6 H7 _ I7 q7) (fun y s8 ⟨yv,H8,I8,r8,hp8,hl8,m',hm,w8⟩=>?_) fun e s8 z=>uS hx hst hf hp I1 hCle f1 (Tn.obj _ _ st5) z;refine thn (c7 _ s8 σ6 H8 (.ref s2.heap.objs.size) [yv] _ [y] (fun v' H'=>W (i+1) m' (ys++[yv]) σ6 H') I8 rfl (.cons r8 .nil) ⟨_,ys,yv,rfl,rfl,hp8,hl8,w8⟩) fun v9 s9 ⟨_,H9,I9,_,w9⟩=>?_;obtain ⟨J1,J2,J3⟩:=back I9;exact ⟨m',hm,i+1,ys++[yv],σ6,H9,J1,J2,J3,w9⟩
 exact codeAny_compStart_list (loop _ rfl) (Tn.self _ 0 _ _ _ st₁ (loop _ rfl))
end
section
variable {X:Cx}
theorem kU (K:PySem.W.Frag) (h:X.K=K):dk X (.builtin "isinstance") (zu K):=by subst h;exact CB
theorem rh (K:PySem.W.Frag) (h:X.K=K):dk X (.builtin "isinstance") (Db K):=by subst h;exact Av
theorem zU {a:Expr} {ta:TE} (K:PySem.W.Frag) (h:X.K=K) (ha:PE X a ta) (he:∀ whole,isTrue a X.env whole=(do let v <- whole;standAt a.pos;holding [v] (truthy v))) :
   PT X a (fun σ H Q=>ta σ H fun x H'=>∃ k,CF K x H' k/\Q k H'):=by subst h;exact wn ha he
end
end L2
set_option Elab.async false
set_option linter.all false
set_option maxRecDepth 100000
namespace L2
open PySem PySem.Spec PyProof.Rows
section
variable {prog:Program} {w:World} {A:Around} {E:Value->Shared->Prop} {h:Heap} {g:Array GenState} {d:Drawn} {t:Nat} {os:OsState}
variable {nm q:Str} {C N:Addr} {bs bm bmB:List Value} {hdct:Bool} {sn:List Str} {sub:List Value} {ab:Bool} {col:Option Bool} {dd:Option Addr} {k0 k1 k2 k3 k5:Option Value} {B newId initId:String}
theorem sL (F:ExcBaseFacts B newId initId bmB) (T:OwnTail h bmB bm) {mN:Str->Option Value} {ao:List Value} {fI:Addr} {oI:Obj} {Q:Fin->Shared->Prop}
   (hC:h.get? C=some (excClassObj nm q C N bs bm hdct sn sub ab col dd k0 k1 k2 k3 k5 newId)) (hn:h.Ns N mN) (hi:mN "__init__"=some (.ref fI)) (hfI:h.get? fI=some oI) (hfc:oI.cls=.type "function")
   (hq:∀ h' e,Heap.MadeExcOf h h' e (.ref C) ao->wpAny (model prog w) A (call (.ref fI) (.ref e::ao)) (fun r s'=>r=.none/\Q (.done (.ret (.ref e))) s') E ⟨h',g,d,t,os⟩) (hrest:ao.length<=sizeLine) :
   wpAny (model prog w) A (Builtin.«type.__call__» ⟨.ref C::ao,[]⟩) Q E ⟨h,g,d,t,os⟩:=by
 repeat (first|with_reducible refine wpAny_loadPart_at hC ?_|with_reducible refine wpAny_madeBy_exc hC ?_|wp_step)
 refine codeAny_call_builtin_code (Code.quiet_builtin _ F.quiet) (wpAny_check_new_subT F T hC ?_);refine codeAny_exc_new_subT F T hC ?_ hrest;show wpAny _ _ _ _ _ _;have up:∀ b o,h.get? b=some o->((h.push { cls:=.type "tuple",data:=.seq ao.toArray }).push { cls:=.ref C,data:=.fields #[.ref h.objs.size,.none,.none,.none,.bool false,.none] }).get? b=some o:=fun b o e=>Heap.get?_push_of_some _ (Heap.get?_push_of_some _ e);have hC1:=up _ _ hC;have hf1:=up _ _ hfI;have hn1:=hn.keeps up;have T1:=T.keeps up;have hget:((h.push { cls:=.type "tuple",data:=.seq ao.toArray }).push { cls:=.ref C,data:=.fields #[.ref h.objs.size,.none,.none,.none,.bool false,.none] }).get? (h.objs.size+1)=some { cls:=.ref C,data:=.fields #[.ref h.objs.size,.none,.none,.none,.bool false,.none] }:=by heap_get
 have hcC:(Value.ref C::bm).contains (.ref C)=true:=by simp
 unfold isInstance
 repeat (first|with_reducible refine wpAny_loadPart_at hget ?_|(with_reducible refine wpAny_isSubtype_exc hC1 ?_;rw [hcC])|wp_step)
 show wpAny _ _ (typeLookup (.ref C) _) _ _ _;refine wpAny_typeLookup_tail hC1 hn1 T1 F.mroIs F.init.lookup ?_;rw [hi];refine wpAny_holding (wpAny_bind ?_);unfold bindSpecial;refine wpAny_bind (wpAny_typeOf (T:="function") ⟨_,hf1,hfc⟩ ?_);rw [if_pos (by decide)];refine wpAny_pure (wpAny_bind (wpAny_mono (hq _ (h.objs.size+1) ⟨up,Heap.get?_none_of_le (Nat.le_succ _),h.objs.size,hget,Heap.get?_none_of_le (Nat.le_refl _),?_⟩) (fun r s' hr=>?_) fun _ _ x=>x))
 . exact Heap.get?_push_of_some _ (Heap.get?_push_at rfl rfl)
 . obtain ⟨rfl,hQ⟩:=hr
   wp_walk
   exact hQ
theorem zr (F:ExcBaseFacts B newId initId bmB) (T:OwnTail h bmB bm) {mN:Str->Option Value} {ao:List Value} {fI:Addr} {oI:Obj} {Q:Value->Shared->Prop}
   (hC:h.get? C=some (excClassObj nm q C N bs bm hdct sn sub ab col dd k0 k1 k2 k3 k5 newId)) (hn:h.Ns N mN) (hi:mN "__init__"=some (.ref fI)) (hfI:h.get? fI=some oI) (hfc:oI.cls=.type "function")
   (hq:∀ h' e,Heap.MadeExcOf h h' e (.ref C) ao->wpAny (model prog w) (A.under (.builtin "type.__call__" ⟨.ref C::ao,[]⟩)) (call (.ref fI) (.ref e::ao)) (fun r s'=>r=.none/\Q (.ref e) s') E ⟨h',g,d,t,os⟩) (hrest:ao.length<=sizeLine) :
   wpAny (model prog w) A (call (.ref C) ao) Q E ⟨h,g,d,t,os⟩:=by
 have f1:=tc_lookup;have f2:=tc_bind (.ref C);have hT:(⟨h,g,d,t,os⟩:Shared).TypeIs (.ref C) "type":=⟨_,hC,rfl⟩;refine wpAny_call (codeAny_of_tree ?_);show wpAny _ _ (callAny (.ref C) _) _ _ _
 repeat (any_goals (first|assumption|with_reducible refine wpAny_loadPart_at hC ?_|wp_step))
 refine ⟨rfl,?_⟩;refine codeAny_call_builtin_at (Code.quiet_builtin _ (by decide +kernel)) entry_typeCall (wpAny_check_type_call_sub hC (sL F T hC hn hi hfI hfc (fun h' e hm=>?_) hrest));exact hq h' e hm
end
section
variable {M:Model} {A:Around} {E:Value->Shared->Prop} {env:Env}
variable {nm q:Str} {C N:Addr} {bs bm:List Value} {hdct:Bool} {sn:List Str} {sub:List Value} {ab:Bool} {col:Option Bool} {dd:Option Addr} {k0 k1 k2 k3 k5:Option Value} {newId:String}
theorem nF {s:Shared} {x:Sem Value} {Q:Flow->Shared->Prop} (hbase:bm.contains (.type "BaseException")=true) (hh:A.handled=none)
   (h:wpAny M A x (fun v s₁=>∃ e a0 od sl,v=.ref e/\s₁.heap.get? C=some (excClassObj nm q C N bs bm hdct sn sub ab col dd k0 k1 k2 k3 k5 newId) /\
     s₁.heap.get? e=some { cls:=.ref C,dict:=od,data:=.fields #[a0,.none,.none,.none,.bool false,.none],slots:=sl }/\E (.ref e) s₁) E s) :
   wpAny M A (raiseStmt env (some x) none) Q E s:=by
 have hcB:(Value.ref C::bm).contains (.type "BaseException")=true:=by rw [List.contains_cons,hbase,Bool.or_true]
 unfold raiseStmt;refine wpAny_bind (wpAny_mono h (fun v s₁ h₁=>?_) fun _ _ x=>x);obtain ⟨e,a0,od,sl,rfl,hC,he,hE⟩:=h₁;obtain ⟨hp,g,d,tk,os⟩:=s₁
 repeat (first|with_reducible refine wpAny_loadPart_at he ?_|with_reducible refine wpAny_loadPart_at hC ?_|(with_reducible refine wpAny_isSubtype_exc hC ?_;rw [hcB])|wp_step)
 exact wpAny_raiseNew_none hh hE
end
section
variable {prog:Program} {w:World} {A:Around} {E:Value->Shared->Prop} {s:Shared} {env:Env}
variable {nm q:Str} {C N:Addr} {bs bm bmB:List Value} {hdct:Bool} {sn:List Str} {sub:List Value} {ab:Bool} {col:Option Bool} {dd:Option Addr} {k0 k1 k2 k3 k5:Option Value} {B newId initId:String}
theorem qc (F:ExcBaseFacts B newId initId bmB) {x:Str} {np cpos pos:Pos} {args:List Expr} {Q:Flow->Shared->Prop}
   (hbase:bm.contains (.type "BaseException")=true) (hh:A.handled=none) (hplain:(backTo cpos (starEach args env)).any (·.1)=false)
   (h:wpAny (model prog w) A (eval (.Name x np) env) (fun f s₁=>f=.ref C/\wpAny (model prog w) A (evalArgs (.ref C) true (backTo cpos (starEach args env)) [])
     (fun a s₂=>a.kw=[]/\a.pos.length<=sizeLine/\∃ mN fI oI,s₂.heap.get? C=some (excClassObj nm q C N bs bm hdct sn sub ab col dd k0 k1 k2 k3 k5 newId)/\s₂.heap.Ns N mN/\OwnTail s₂.heap bmB bm/\mN "__init__"=some (.ref fI)/\s₂.heap.get? fI=some oI/\oI.cls=.type "function" /\
       ∀ h' e,Heap.MadeExcOf s₂.heap h' e (.ref C) a.pos->wpAny (model prog w) (A.under (.builtin "type.__call__" ⟨.ref C::a.pos,[]⟩)) (call (.ref fI) (.ref e::a.pos)) (fun r s'=>r=.none /\
         s'.heap.get? C=some (excClassObj nm q C N bs bm hdct sn sub ab col dd k0 k1 k2 k3 k5 newId)/\(∃ a0 od sl,s'.heap.get? e=some { cls:=.ref C,dict:=od,data:=.fields #[a0,.none,.none,.none,.bool false,.none],slots:=sl })/\E (.ref e) s') E { s₂ with heap:=h' }) E s₁) E s) :
   wpAny (model prog w) A (exec (.Raise (some (.Call (.Name x np) args [] cpos)) none pos) env) Q E s:=by
 rw [arm_exec_Raise]
 first
   | refine wpAny_bind (wpAny_standAt (nF (C:=C) (nm:=nm) (q:=q) (N:=N) (bs:=bs) (bm:=bm) (hdct:=hdct) (sn:=sn) (sub:=sub) (ab:=ab) (col:=col) (dd:=dd) (k0:=k0) (k1:=k1) (k2:=k2) (k3:=k3) (k5:=k5) (newId:=newId) hbase hh (wpAny_bind (wpAny_mono (wpAny_Call_ofName (wpAny_mono h (fun f s₁ h₁=>?_) fun _ _ x=>x)) (fun v s₃ h₃=>wpAny_bind (wpAny_standAt (wpAny_pure h₃))) fun _ _ x=>x))))
   | (simp only [evalOpt,Option.map];refine wpAny_bind (wpAny_standAt (nF (C:=C) (nm:=nm) (q:=q) (N:=N) (bs:=bs) (bm:=bm) (hdct:=hdct) (sn:=sn) (sub:=sub) (ab:=ab) (col:=col) (dd:=dd) (k0:=k0) (k1:=k1) (k2:=k2) (k3:=k3) (k5:=k5) (newId:=newId) hbase hh (wpAny_bind (wpAny_mono (wpAny_Call_ofName (wpAny_mono h (fun f s₁ h₁=>?_) fun _ _ x=>x)) (fun v s₃ h₃=>wpAny_bind (wpAny_standAt (wpAny_pure h₃))) fun _ _ x=>x)))))
   | (refine wpAny_bind (wpAny_standAt (nF (C:=C) (nm:=nm) (q:=q) (N:=N) (bs:=bs) (bm:=bm) (hdct:=hdct) (sn:=sn) (sub:=sub) (ab:=ab) (col:=col) (dd:=dd) (k0:=k0) (k1:=k1) (k2:=k2) (k3:=k3) (k5:=k5) (newId:=newId) hbase hh ?_));refine wpAny_bind (wpAny_mono (wpAny_Call_ofName (wpAny_mono h (fun f s₁ h₁=>?_) fun _ _ x=>x)) (fun v s₃ h₃=>wpAny_bind (wpAny_standAt (wpAny_pure h₃))) fun _ _ x=>x))
 obtain ⟨rfl,h₁⟩:=h₁;unfold callWith;refine wpAny_bind (wpAny_holding (wpAny_mono h₁ (fun a s₂ h₂=>wpAny_bind (wpAny_standAt ?_)) fun _ _ x=>x));obtain ⟨apos,akw⟩:=a;obtain ⟨hkw,hlen,mN,fI,oI,hC,hn,T,hi,hf,hfc,h₂⟩:=h₂;obtain rfl:akw=[]:=hkw;obtain ⟨hp,g,d,tk,os⟩:=s₂;simp only [hplain];refine wpAny_bind (wpAny_keeperOf_exc hC ?_);refine wpAny_bind (zr F T hC hn hi hf hfc (fun h' e hm=>wpAny_mono (h₂ h' e hm) (fun r s' hr=>⟨hr.1,wpAny_bind (wpAny_holding (wpAny_point (wpAny_pure ?_)))⟩) fun _ _ y=>y) hlen);obtain ⟨_,c1,⟨a0,od,sl,c2⟩,c3⟩:=hr;exact ⟨e,a0,od,sl,rfl,c1,c2,c3⟩
end
def ExN (ea:Addr) (cls:Value) (od:Option Addr):HO:=.ext fun h=>∃ a0 sl,h.get? ea=some { cls:=cls,dict:=od,data:=.fields #[a0,.none,.none,.none,.bool false,.none],slots:=sl }
def del (H:Hp) (a:Addr):Hp:=fun b=>if b=a then none else H b
theorem kf {H:Hp} {a b:Addr} (h:b≠a):del H a b=H b:=if_neg h
theorem qB {H:Hp} {a:Addr}:del H a a=none:=if_pos rfl
section
variable {X:Cx} {pins:List (Addr × Obj)} {σ:St} {H:Hp} {s:Shared}
theorem Inv.trackN {ea:Addr} {cls:Value} {od:Option Addr} (I:Inv X pins σ H s) (l:Loose X pins H ea) (e:∃ a0 sl,s.heap.get? ea=some { cls:=cls,dict:=od,data:=.fields #[a0,.none,.none,.none,.bool false,.none],slots:=sl }):Inv X pins σ (upd H ea (ExN ea cls od)) s:=by
 have ne:∀ b,b≠ea->upd H ea (ExN ea cls od) b=H b:=fun b z=>am z;have nt:∀ b u,H b=some u->upd H ea (ExN ea cls od) b=some u:=fun b u z=>by rw [ne b (au z l.un)];exact z
 refine ⟨I.ok,I.os,I.bare,⟨I.base.keep,I.base.slot,fun b o q n x=>?_,I.base.there,fun b xs q=>nt _ _ (I.base.tups b xs q),fun b o u q=>nt _ _ (I.base.frzs b o u q),fun b ps q=>?_⟩,I.loc,I.cell,?_,fun x c q=>?_,fun p hp=>?_,?_,I.len⟩
 . rw [ne b (by rintro rfl;rw [l.new] at q;cases q)];exact I.base.free b o q n x
 . obtain ⟨more,z⟩:=I.base.tbls b ps q;exact ⟨more,nt _ _ z⟩
 . rw [ne _ (Ne.symm l.loc)];exact I.free
 . rw [ne _ (l.cel x c q)];exact I.freeC x c q
 . obtain ⟨z1,z2,z3,z4,z5⟩:=I.pin p hp;exact ⟨z1,by rw [ne _ (l.pin p hp)];exact z2,z3,z4,z5⟩
 . intro b u q;by_cases z:b=ea
   . subst z;rw [af] at q;cases q;obtain ⟨a0,sl,h1⟩:=e;refine ⟨⟨a0,sl,h1⟩,⟨_,h1⟩,?_⟩;rintro g1 g2 ⟨a,l,a1⟩ kk;exact ⟨a,l,kk _ a1⟩
   . rw [ne b z] at q;exact (I.hok b u q).stay (fun _ _ _ r=>r) (fun c r=>nt _ _ r) fun c xs r=>nt _ _ r
theorem Inv.untrack {ea:Addr} {φ:Heap->Prop} (I:Inv X pins σ H s) (e:H ea=some (.ext φ)):Inv X pins σ (del H ea) s:=by
 have nt:∀ b u,H b=some u->b≠ea->del H ea b=some u:=fun b u z n=>by rw [kf n];exact z
 have nn:∀ b,H b=none->del H ea b=none:=fun b z=>by
   by_cases q:b=ea
   . rw [q,qB]
   . rw [kf q];exact z
 refine ⟨I.ok,I.os,I.bare,⟨I.base.keep,I.base.slot,fun b o q n x=>nn _ (I.base.free b o q n x),I.base.there,fun b xs q=>?_,fun b o u q=>?_,fun b ps q=>?_⟩,I.loc,I.cell,nn _ I.free,fun x c q=>nn _ (I.freeC x c q),fun p hp=>?_,?_,I.len⟩
 . have z:=I.base.tups b xs q;exact nt _ _ z (by rintro rfl;rw [e] at z;cases z)
 . have z:=I.base.frzs b o u q;exact nt _ _ z (by rintro rfl;rw [e] at z;cases z)
 . obtain ⟨more,z⟩:=I.base.tbls b ps q;exact ⟨more,nt _ _ z (by rintro rfl;rw [e] at z;cases z)⟩
 . obtain ⟨z1,z2,z3,z4,z5⟩:=I.pin p hp;exact ⟨z1,nn _ z2,z3,z4,z5⟩
 . intro b u q;have nb:b≠ea:=by rintro rfl;rw [qB] at q;cases q
   rw [kf nb] at q;exact (I.hok b u q).stay (fun _ _ _ r=>r) (fun c r=>nt _ _ r (by rintro rfl;rw [e] at r;cases r)) fun c xs r=>nt _ _ r (by rintro rfl;rw [e] at r;cases r)
end
def xO (X:Cx) (E:XK):Prop:=∀ (pins:List (Addr × Obj)) (σ:St) (H:Hp) (s:Shared) (ea:Addr) (cls:Value) (od:Option Addr),Inv X pins σ H s->fZ s.heap ea cls od .none->Loose X pins H ea->E cls od H->X.xe (.ref ea) s
section
variable {P:Program} {w:World} {K:PySem.W.Frag} {mg:Str->Option Value} {base:Heap} {N:List Str} {qual:Str} {scope:Scope} {f:Addr} {cd:Value} {A:Around} {outer:List Env} {s:Shared} {H:Hp} {E:XK}
theorem sQ:xO (ig (CXe P w) P w K mg base N qual scope f cd A outer s H E) E:=by
 intro pins σ H1 s1 ea cls od J er le q;refine Ap (base:=base) J.ok.frames J.stack rfl er fun h2 T' er' k nT=>?_;have fr:∀ b∈frs (envOfC qual scope s.heap.objs.size f cd::outer),H1 b=none:=J.stkFree;refine ⟨ea,T',cls,od,H1,rfl,J.os,J.bare,qm J k ?_,m3 J.hok k fr ?_,le.un,qo J.hok nT,le.new,jL J nT,er',q⟩
 . intro b hb;rw [List.mem_singleton.mp hb];exact le.new
 . intro b hb;rw [List.mem_singleton.mp hb];exact le.un
end
theorem y4 {K:PySem.W.Frag} {h:Heap} {N:Addr} {mg:Str->Option Value} {n:Str} {v:Value} (X:K.In h) (G:h.Ns N mg) (e:PySem.W.nsIn K N n=some (some v)):mg n=some v:=by
 obtain ⟨o,es,ep,ho,hd,_,hf⟩:=G;unfold PySem.W.nsIn at e;split at e
 . rename_i c d es' n' sl q
   have:=X _ _ q;rw [ho] at this;cases this;cases hd;split at e
   . rename_i en he
     cases e;rw [<- hf];unfold nsFind findBy;rw [<- Array.find?_toList,he]
     rfl
   . rename_i he
     split at e <;> cases e
 . cases e
def jA (K:PySem.W.Frag) (C fI:Addr):Prop:=∃ (nm qn:Str) (N:Addr) (bs bm:List Value) (hdct:Bool) (sn:List Str) (sub:List Value) (ab:Bool) (col:Option Bool) (dd:Option Addr) (k0 k1 k2 k3 k5:Option Value),
   K.lookup C=some (excClassObj nm qn C N bs bm hdct sn sub ab col dd k0 k1 k2 k3 k5 "ValueError.__new__")/\PySem.W.nsOkIn K N=true/\PySem.W.nsIn K N "__init__"=some (some (.ref fI))/\PySem.W.tailIn K bmV bm=true/\PySem.W.isFn K (.ref fI)=true
def sT (C:Addr) (sp:Sp) (E:XK) (t:TA):TS:=fun _ σ H=>t σ H fun vs H1=>vs.length<=sizeLine/\∀ ea,H1 ea=none->sp (.ref ea::vs) (upd H1 ea (ExN ea (.ref C) none)) (fun v H2=>v=.non/\∃ od,H2 ea=some (ExN ea (.ref C) od)/\E (.ref C) od (del H2 ea)) fun _ _ _=>False
section
variable {X:Cx} {x:Str} {np cpos pos:Pos} {e0:Expr} {es:List Expr} {t:TA} {C fI:Addr} {E:XK} {CX:CXT} {k:Nat} {fd:FuncData} {ps:List Str} {sp:Sp}
theorem pc (q:jA X.K C fI) (F:FnOk X.prog X.w X.K X.mg X.base CX k fI fd ps sp) (hq:bG CX) (hr:Room (k+1) X.A) (hb:Binds X.K fd ps []) (hx:X.ex=[]) (hc:X.calm=true) (hR:xO X E) (hg:Gl X x) (hm:X.mg x=some (.ref C)) (ha:PA X (e0::es) t) (hdb:(x == ("__debug__":Str))=false:=by decide)
   (he:starEach (e0::es) X.env=(false,eval e0 X.env)::starEach es X.env:=by rfl) (hpl:(backTo cpos (starEach es X.env)).any (·.1)=false:=by rfl):PS X (.Raise (some (.Call (.Name x np) (e0::es) [] cpos)) none pos) (sT C sp E t):=by
 intro pins s σ H D I h;obtain ⟨nm,qn,N,bs,bm,hdct,sn,sub,ab,col,dd,k0,k1,k2,k3,k5,ho,z5,z6,z4,z7⟩:=q;have B:=I.mod.kin;have T0:=PySem.W.tail_of_in B z4;have N0:X.base.Ns N (X.base.nsMap N):=.of_isNs (PySem.W.isNs_of_in B z5);have n0:=y4 B N0 z6;obtain ⟨oI,lI,cI⟩:∃ oI,X.K.lookup fI=some oI/\oI.cls=.type "function":=by
   have z:=beq_iff_eq.mp z7;unfold PySem.W.typeIn at z;exact Option.map_eq_some_iff.mp z
 have hp:(backTo cpos (starEach (e0::es) X.env)).any (·.1)=false:=by
   rw [he];show (false || (backTo cpos (starEach es X.env)).any (·.1))=false;rw [hpl]
   rfl
 refine qc (C:=C) (nm:=nm) (q:=qn) (N:=N) (bs:=bs) (bm:=bm) (hdct:=hdct) (sn:=sn) (sub:=sub) (ab:=ab) (col:=col) (dd:=dd) (k0:=k0) (k1:=k1) (k2:=k2) (k3:=k3) (k5:=k5) PySem.F.excBase_ValueError
   (T0.hasType (by decide +kernel)) (I.ok.hd hc) hp (jJ I hg hm ⟨rfl,?_⟩ hdb)
 have g:=ha cpos pins s σ H _ I h;rw [he] at g ⊢;refine Calls.evalArgs_plain (thn g fun us s1 ⟨vs,H1,I1,r1,q1⟩=>⟨rfl,by show us.length<=_;rw [<- r1.length];exact q1.1,X.base.nsMap N,fI,oI,I1.bk _ _ (B _ _ ho),N0.keeps I1.bk,T0.keeps I1.bk,n0,I1.bk _ _ (B _ _ lI),cI,fun h' ea m=>?_⟩);obtain ⟨tt,m1,_,_⟩:=m.there;have le:Loose X pins H1 ea:=by
   obtain ⟨a1,a2,a3⟩:=I1.apart m.new;refine ⟨qo I1.hok m.new,?_,a1,a2,a3⟩;rcases I1.young m.new with y|y
   . exact y
   . rw [hx] at y;cases y
 have I2:Inv X pins σ (upd H1 ea (ExN ea (.ref C) none)) { s1 with heap:=h' }:=Inv.trackN (I1.kept (t':=s1.toks) m.keeps) le ⟨_,_,m1⟩;have sp1:=q1.2 ea le.un;have r2:Vals (V.ref ea::vs) (Value.ref ea::us):=.cons rfl r1;have hl:(Value.ref ea::us).length=ps.length:=by rw [<- r2.length];exact F.len _ _ _ _ sp1
 refine wpAny_call (codeAny_mono (F.run _ X.stack _ _ ⟨Value.ref ea::us,[]⟩ (Value.ref ea::us) _ _ _ (hr.make C us []) (I2.env0.make C us []) (by have:=hb { s1 with heap:=h' } (Value.ref ea::us) I2.kIn (by rw [List.append_nil];exact hl);rw [List.append_nil] at this;exact this) r2 sp1) fun r s' hq'=>?_);cases r with
 | error e=>exact (hq _ _ _ _ _ hq').elim
 | ok fl =>
   cases fl with
   | ret u =>
     obtain ⟨v,H',I3,rv,ev,od,e3,q3⟩:=I2.after hq';subst ev;obtain rfl:u=Value.none:=rv;obtain ⟨⟨a0,sl,e4⟩,_,_⟩:=(show ObjOk X.prog X.w H' s'.heap ea (ExN ea (.ref C) od) from I3.hok ea _ e3);refine ⟨rfl,I3.bk _ _ (B _ _ ho),⟨a0,od,sl,e4⟩,?_⟩;refine hR pins σ (del H' ea) s' ea (.ref C) od (I3.untrack e3) ⟨_,_,e4,rfl,rfl,rfl,rfl,rfl⟩ ⟨qB,le.new,le.loc,le.cel,le.pin⟩ q3
   | next=>exact False.elim hq'
   | brk=>exact False.elim hq'
   | cont=>exact False.elim hq'
end
structure BaseIn (K:PySem.W.Frag) (Tl:Addr):Prop where
 ga:PySem.W.specialIn K (.ref Tl) "__getattribute__"=some (some (.builtin "type.__getattribute__"))
 rd:PySem.W.readsIn K Tl (.type "type")=true
 fd:PySem.W.findCls K (.ref Tl) (.type "type") "__init__"=some (.val (.builtin "ValueError.__init__"))
def Al (K:PySem.W.Frag) (t:TA):TE:=fun σ H Q=>t σ H fun vs H1=>∃ ea C fI od ao,vs=.ref ea::ao/\ao.length<=sizeLine/\jA K C fI/\H1 ea=some (ExN ea (.ref C) od)/\Q .non H1
section
variable {X:Cx} {x:Str} {np apos pos:Pos} {e0:Expr} {es:List Expr} {t:TA} {Tl:Addr} {pl:Sem Bool}
theorem wV (b:BaseIn X.K Tl) (hg:Gl X x) (hm:X.mg x=some (.ref Tl)) (ha:PA X (e0::es) t) (hdb:(x == ("__debug__":Str))=false:=by decide)
   (he:starEach (e0::es) X.env=(false,eval e0 X.env)::starEach es X.env:=by rfl) (hpl:(backTo pos (starEach es X.env)).any (·.1)=false:=by rfl)
   (ht:eval (.Call (.Attribute (.Name x np) "__init__" apos) (e0::es) [] pos) X.env=(do
     let ov <- eval (.Name x np) X.env
     standAt apos.atName
     let (f,first) <- holding [ov] (getMethod ov "__init__" pl)
     callWith pos f first (backTo pos (starEach (e0::es) X.env)) (backToKw pos (keywordEach [] X.env))):=by rfl) :
   PE X (.Call (.Attribute (.Name x np) "__init__" apos) (e0::es) [] pos) (Al X.K t):=by
 intro pins s σ H Q I h;refine PySem.W.methodCall_KW (pl:=pl) (jJ I hg hm ?_ hdb) ht;refine PySem.W.method_cls I.kIn b.ga (PySem.W.cls_value I.kIn b.rd b.fd (by decide +kernel) ?_);have I0:=I.tok (s.toks+1);have g0:=ha pos pins _ σ H _ I0 h;rw [he] at g0 ⊢;refine PySem.W.callWith_of (P:=fun _=>True) (by show ((false || (backTo pos (starEach es X.env)).any (·.1)) || false)=false;rw [hpl];rfl) (fun h _=>⟨.machine,.inr (.inl rfl),.now⟩) (Calls.evalArgs_plain (thn g0 fun us s1 ⟨vs,H1,I1,r1,ea,C,fI,od,ao,ev,hl,q,e1,q1⟩=>⟨trivial,?_⟩));subst ev;obtain ⟨u,us',rfl,ru,rr⟩:∃ u us',us=u::us'/\RelV (.ref ea) u/\Vals ao us':=by cases r1 with|cons a c=>exact ⟨_,_,rfl,a,c⟩
 obtain rfl:u=Value.ref ea:=ru;obtain ⟨nm,qn,N,bs,bm,hdct,sn,sub,ab,col,dd,k0,k1,k2,k3,k5,ho,z5,z6,z4,z7⟩:=q;have B:=I.mod.kin;have T0:=(PySem.W.tail_of_in B z4).keeps I1.bk;have hC:=I1.bk _ _ (B _ _ ho);obtain ⟨⟨a0,sl,e4⟩,_,_⟩:=(show ObjOk X.prog X.w H1 s1.heap ea (ExN ea (.ref C) od) from I1.hok ea _ e1);have F:=PySem.F.excBase_ValueError;obtain ⟨hp,g,d,tk,os⟩:=s1;refine wpAny_call (codeAny_call_builtin F.init.plain F.initEntry (wpAny_check_init_subT F T0 hC e4 rfl ?_))
 wp_walk
 have ul:us'.length=ao.length:=rr.length.symm;rw [if_neg (by rw [List.size_toArray];omega)]
 wp_walk
 have lt:ea<hp.objs.size:=Heap.lt_size e4;have e5:(hp.push { cls:=Value.type "tuple",data:=Data.seq us'.toArray }).get? ea=some { cls:=.ref C,dict:=od,data:=.fields #[a0,.none,.none,.none,.bool false,.none],slots:=sl }:=Heap.get?_push_of_some _ e4;have fin:EP X pins σ Q .none ⟨(hp.push { cls:=Value.type "tuple",data:=Data.seq us'.toArray }).update ea (Obj.mapFields fun x=>x.setIfInBounds 0 (Value.ref hp.objs.size)),g,d,tk,os⟩:=by
   have e6:=Heap.get?_update_self (Obj.mapFields fun x=>x.setIfInBounds 0 (Value.ref hp.objs.size)) e5 rfl;have I2:=I1.write (x:=ea) (e:=ea) (o:=ExN ea (.ref C) od) (t':=tk) (h':=(hp.push { cls:=Value.type "tuple",data:=Data.seq us'.toArray }).update ea (Obj.mapFields fun x=>x.setIfInBounds 0 (Value.ref hp.objs.size))) (by rw [e1];trivial) (.inl rfl) (fun b u n z=>by rw [Heap.get?_update_other _ _ (Ne.symm n)];exact Heap.get?_push_of_some _ z) ⟨_,e6⟩
     ⟨⟨_,_,e6⟩,⟨_,e6⟩,by
       rintro g1 g2 ⟨a,l,a1⟩ kk;exact ⟨a,l,kk _ a1⟩⟩
   have es:upd H1 ea (ExN ea (.ref C) od)=H1:=by
     funext b
     by_cases z:b=ea
     . rw [z,af,e1]
     . rw [am z]
   rw [es] at I2;exact ⟨.non,H1,I2,rfl,q1⟩
 show wpAny _ _ (match a0 with|Value.ref a=>letGo [a0]|x=>pure ()) _ _ _;cases a0 with
 | ref a=>exact wpAny_letGo (wpAny_pure fin)
 | _=>exact wpAny_pure (wpAny_pure fin)
end
end L2
set_option Elab.async false
set_option linter.all false
set_option maxRecDepth 100000
namespace L2
open PySem PySem.Spec PyProof.Rows PySem.W PySem.Builtin PySem.Builtin.ObjectAttr
theorem yY (self:Value):refuseLoop self "__setattr__" bmV=pure ():=by kernel_rfl
section
variable {K:PySem.W.Frag} {prog:Program} {w:World} {A:Around} {s:Shared} {x C Tl:Addr} {R:Result->Shared->Prop}
theorem DW {ox:Obj} {od:Option Obj} {name:Str} {tk:Tok} {v:Value} {cd:ClassData} (X:K.In s.heap) (I:PySem.W.InstAt s.heap x ox C od) (hc:PySem.W.clsIn K C=some cd) (hmro:cd.mro=.ref C::.ref Tl::bmV) (ht:PySem.W.takerIn K C name=some none)
   (h:∀ b,wpAny (model prog w) A.in1 (storeInOwnDict (.ref x) (.ref C) (.str name tk) name v b)
     (fun fin s'=>match fin with|.done f=>R (.ok f) s'|.again c'=>c'.quiet=true/\codeAny (model prog w) A c' R s') (fun e s'=>R (.error e) s') s) :
   codeAny (model prog w) A (.call (.builtin "object.__setattr__") ⟨[.ref x,.str name tk,v],[]⟩) R s:=by
 have SF:=PySem.F.store_object;have ne:cd.mro.isEmpty=false:=by rw [hmro];rfl
 have sub:PySem.W.Looks (model prog w) s.heap (isInstance (.ref x) (.type "object")) true:=I.type.andThen (PySem.W.looks_mroIn X (by unfold PySem.W.mroIn;rw [hc,Option.bind_some,if_neg (by rw [ne];decide),hmro];simp));refine codeAny_call_builtin SF.slot.plain SF.entry (@check_slot (model prog w) _ _ s "object.__setattr__" "object" "__setattr__" (.ref x) [.str name tk,v] [] _ SF.kind SF.split sub (SF.args (.ref x) (.str name tk) v) ?_);obtain ⟨attr,ha,hr⟩:=Option.bind_eq_some_iff.mp ht;have hm:PySem.W.Looks (model prog w) s.heap (mroOf (.ref C)) cd.mro:=(PySem.W.looks_clsIn X hc).andThen .now;have L3:PySem.W.Looks (model prog w) s.heap (storeTaker? attr) none:=by
   cases attr with
   | none=>exact .now
   | some a =>
     obtain ⟨b,hb,z⟩:=Option.map_eq_some_iff.mp hr;refine (PySem.W.looks_takesIn X hb).andThen ?_;cases b
     . exact .now
     . cases z
 rw [PySem.W.osa_eq,refuse_eq];refine wpAny_bind (wpAny_bind (I.type.here (wpAny_bind (hm.here ?_))));rw [hmro,refuseLoop_ref,refuseLoop_ref,yY];refine wpAny_pure (wpAny_bind (I.type.here (wpAny_bind ((PySem.W.looks_findIn X ha).here (wpAny_bind (L3.here ?_))))));exact h _
theorem zR {name:Str} {tk:Tok} {v:Value} {b:Bool} {oe:Obj} {vs:Array Value} {cd:ClassData} {Q:Fin->Shared->Prop} {E:Value->Shared->Prop} (X:K.In s.heap) (he:s.heap.get? x=some oe) (h1:oe.cls=.ref C) (h2:oe.dict=none) (h3:oe.data=.fields vs) (hc:PySem.W.clsIn K C=some cd) (hh:cd.hasDict=true)
   (h:∀ h' dx,s.heap.get? dx=none->h'.get? x=some { oe with dict:=some dx }->h'.Ns1 dx (fun y=>if y=name then some v else none)->(∀ c o,c≠x->s.heap.get? c=some o->h'.get? c=some o)->Q (.done (.ret .none)) { s with heap:=h',toks:=s.toks+1 }) :
   wpAny (model prog w) A (storeInOwnDict (.ref x) (.ref C) (.str name tk) name v b) Q E s:=by
 obtain ⟨hp,g,d,t,os⟩:=s;have L:=PySem.W.looks_clsIn (M:=model prog w) X hc;unfold storeInOwnDict ownDictForStores instanceDict;refine wpAny_bind (wpAny_pure ?_);simp only [show (Value.ref C == Value.type "module")=false from rfl,Bool.false_eq_true,if_false];refine wpAny_bind (wpAny_bind (wpAny_loadPart_at he ?_));rw [h1];refine wpAny_bind (L.at ?_);rw [hh,h2,h3];show wpAny _ _ (do let d <- alloc { cls:=Value.type "dict",data:=Data.dict #[] };update x fun o=>{ cls:=o.cls,dict:=some d,data:=o.data,slots:=o.slots };dictMade (Value.ref C) x d) _ _ _;have ex:=Heap.get?_push_of_some { cls:=Value.type "dict",data:=Data.dict #[] } he;have lt:x<hp.objs.size:=Heap.lt_size he;refine wpAny_bind (wpAny_alloc' (wpAny_bind (wpAny_update' (o:=oe) ex ?_)));show wpAny _ _ (pure (some hp.objs.size)) _ _ _;refine wpAny_pure ?_;show wpAny _ _ (storeInDict hp.objs.size (Value.str name tk) name v) _ _ _;unfold storeInDict;refine wpAny_bind (wpAny_pure (wpAny_bind ?_));have ed:((hp.push { cls:=Value.type "dict",data:=Data.dict #[] }).update x fun o=>{ cls:=o.cls,dict:=some hp.objs.size,data:=o.data,slots:=o.slots }).get? hp.objs.size=some { cls:=Value.type "dict",data:=Data.dict #[] }:=by
   rw [Heap.get?_update_other _ _ (Nat.ne_of_lt lt)];exact Heap.get?_push_size _ rfl
 have ns:((hp.push { cls:=Value.type "dict",data:=Data.dict #[] }).update x fun o=>{ cls:=o.cls,dict:=some hp.objs.size,data:=o.data,slots:=o.slots }).Ns1 hp.objs.size (fun _=>none):=by
   refine ⟨_,#[],_,ed,rfl,?_,?_,fun _=>rfl⟩
   . intro e he;simp at he
   . first|exact uniqKeys_empty|(unfold UniqKeys;simp)|(intro i j;simp)|decide
 refine wpAny_nsSet1 (s:=⟨_,g,d,t,os⟩) ns fun h' hn2 hs2=>?_;obtain ⟨oD,esD,epD,hoD,hdD,hcD⟩:=hn2.count (PySem.Within.cons name v (ns:=[]) (fun _ z=>(z rfl).elim));refine wpAny_bind (wpAny_lookBehind hoD (by rw [hdD];exact pastItsLine_dict (Nat.le_trans hcD (by show 1<=sizeLine+1;omega))) ?_);refine wpAny_pure (h h' hp.objs.size (Heap.get?_none_of_le (Nat.le_refl _)) ?_ hn2 fun c o nc e=>?_)
 . rw [hs2.2 _ (Nat.ne_of_lt lt),Heap.get?_update_self _ ex (Obj.isFreed_of_fields h3)]
 . have lc:=Heap.lt_size e;rw [hs2.2 _ (Nat.ne_of_lt lc),Heap.get?_update_other _ _ (Ne.symm nc)];exact Heap.get?_push_of_some _ e
end
section
variable {X:Cx} {pins:List (Addr × Obj)} {σ:St} {H:Hp} {s:Shared}
theorem Inv.trackO {a:Addr} {o:HO} (I:Inv X pins σ H s) (l:Loose X pins H a) (ok:ObjOk X.prog X.w (upd H a o) s.heap a o):Inv X pins σ (upd H a o) s:=by
 have ne:∀ b,b≠a->upd H a o b=H b:=fun b z=>am z;have nt:∀ b u,H b=some u->upd H a o b=some u:=fun b u z=>by rw [ne b (au z l.un)];exact z
 refine ⟨I.ok,I.os,I.bare,⟨I.base.keep,I.base.slot,fun b o q n x=>?_,I.base.there,fun b xs q=>nt _ _ (I.base.tups b xs q),fun b o u q=>nt _ _ (I.base.frzs b o u q),fun b ps q=>?_⟩,I.loc,I.cell,?_,fun x c q=>?_,fun p hp=>?_,?_,I.len⟩
 . rw [ne b (by rintro rfl;rw [l.new] at q;cases q)];exact I.base.free b o q n x
 . obtain ⟨more,z⟩:=I.base.tbls b ps q;exact ⟨more,nt _ _ z⟩
 . rw [ne _ (Ne.symm l.loc)];exact I.free
 . rw [ne _ (l.cel x c q)];exact I.freeC x c q
 . obtain ⟨z1,z2,z3,z4,z5⟩:=I.pin p hp;exact ⟨z1,by rw [ne _ (l.pin p hp)];exact z2,z3,z4,z5⟩
 . intro b u q;by_cases z:b=a
   . subst z;rw [af] at q;cases q;exact ok
   . rw [ne b z] at q;exact (I.hok b u q).stay (fun _ _ _ r=>r) (fun c r=>nt _ _ r) fun c xs r=>nt _ _ r
end
structure XSet (K:PySem.W.Frag) (C Tl:Addr) (f:Str):Prop where
 sa:PySem.W.findIn K (.ref C) "__setattr__"=some (some (.builtin "object.__setattr__"))
 cd:∃ cd,PySem.W.clsIn K C=some cd/\cd.mro=.ref C::.ref Tl::bmV/\cd.hasDict=true
 tk:PySem.W.takerIn K C f=some none
section
variable {X:Cx} {pins:List (Addr × Obj)} {σ:St} {H:Hp} {s:Shared} {A:Around} {E:Value->Shared->Prop} {ea C Tl:Addr} {f:Str}
theorem DG {y:V} {u:Value} {Q:Unit->Shared->Prop} (h0:X.ex=[]) (I:Inv X pins σ H s) (e:H ea=some (ExN ea (.ref C) none)) (c:XSet X.K C Tl f) (ry:RelV y u)
   (h:∀ s' dx,H dx=none->dx≠ea->Inv X pins σ (upd (upd H ea (ExN ea (.ref C) (some dx))) dx (.xd [(f,y)])) s'->Q () s'):wpAny (model X.prog X.w) A (setAttr (.ref ea) f u) Q E s:=by
 obtain ⟨⟨a0,sl,e4⟩,_,_⟩:=(show ObjOk X.prog X.w H s.heap ea (ExN ea (.ref C) none) from I.hok ea _ e);obtain ⟨cd,hc,hm,hd⟩:=c.cd;have J:PySem.W.InstAt s.heap ea _ C none:=⟨e4,rfl,rfl,trivial⟩;refine PySem.W.set_plain I.kIn J c.sa (DW (s:={ s with toks:=s.toks+1 }) (Tl:=Tl) I.kIn J hc hm c.tk fun b=>zR (s:={ s with toks:=s.toks+1 }) I.kIn e4 rfl rfl rfl hc hd fun h' dx nd hx hn kp=>?_);have ne:dx≠ea:=fun z=>by rw [z] at nd;rw [show s.heap.get? ea=none from nd] at e4;cases e4
 have hu:=qo I.hok nd;have I2:=I.write (x:=ea) (e:=ea) (o:=ExN ea (.ref C) (some dx)) (t':=s.toks+1+1) (h':=h') (by rw [e];trivial) (.inl rfl) (fun b u n z=>kp b u n z) ⟨_,hx⟩
   ⟨⟨_,_,hx⟩,⟨_,hx⟩,by
     rintro g1 g2 ⟨a,l,a1⟩ kk;exact ⟨a,l,kk _ a1⟩⟩
 have l2:Loose X pins (upd H ea (ExN ea (.ref C) (some dx))) dx:=by
   obtain ⟨a1,a2,a3⟩:=I.apart nd;refine ⟨by rw [am ne];exact hu,?_,a1,a2,a3⟩;rcases I.young nd with z|z
   . exact z
   . rw [h0] at z;cases z
 refine h _ dx hu ne (I2.trackO l2 ⟨_,hn,fun g=>?_⟩);show RelO (List.lookup g [(f,y)]) (if g=f then some u else none);by_cases q:g=f
 . rw [if_pos q,q,List.lookup_cons_self];exact ry
 . rw [if_neg q,List.lookup_cons,show (g == f)=false from by simpa using q];trivial
end
def Fj (K:PySem.W.Frag) (ta tv:TE) (f:Str):TS:=fun D σ H=>tv σ H fun y H1=>ta σ H1 fun x H2=>∃ ea C Tl,x=.ref ea/\H2 ea=some (ExN ea (.ref C) none)/\XSet K C Tl f/\∀ dx,H2 dx=none->dx≠ea->D.nx σ (upd (upd H2 ea (ExN ea (.ref C) (some dx))) dx (.xd [(f,y)]))
section
variable {X:Cx} {o value:Expr} {ta tv:TE} {f:Str} {pos pos':Pos}
theorem D5 (h0:X.ex=[]) (ha:PE X o ta) (hv:PE X value tv) (hs:swapsWith value (some (.Attribute o f pos')) pos.line X.env=pure false):PS X (.Assign [.Attribute o f pos'] value pos) (Fj X.K ta tv f):=by
 intro pins s σ H D I h;refine plainObj_wpAny_Assign_Attribute (bc (hv pins s σ H _ I h) fun u s1 y H1 I1 ry q=>bc (ha pins s1 σ H1 _ I1 q) fun ov s2 x H2 I2 rx ⟨ea,C,Tl,ex,e2,c,q2⟩=>?_) hs;subst ex;obtain rfl:ov=Value.ref ea:=rx;exact DG h0 I2 e2 c ry fun s3 dx n1 n2 I3=>⟨σ,_,I3,q2 dx n1 n2⟩
end
section
variable {prog:Program} {w:World} {A:Around} {E:Value->Shared->Prop} {s:Shared} {K:PySem.W.Frag} {x C:Addr} {ox:Obj} {od:Obj}
theorem Dv {name:Str} {v:Value} {expr:Bool} {Q:Value->Shared->Prop} (X:K.In s.heap) (I:PySem.W.InstAt s.heap x ox C (some od)) (c:XCls K C) (ha:PySem.W.findIn K (.ref C) name=some none) (hl:PySem.W.lookIn name od=some (some v)) (hv:PySem.W.handedIn v=true)
   (h:Q v { s with toks:=s.toks+1 }):wpAny (model prog w) A (getAttr (.ref x) name expr) Q E s:=by
 obtain ⟨hh,g,dr,t,os⟩:=s;have L0:=I.type (M:=model prog w);have L1:=PySem.W.looks_findIn (M:=model prog w) X c.ga;have L2:=PySem.W.looks_findIn (M:=model prog w) X c.gt;have L3:=PySem.W.looks_find (M:=model prog w) X I (PySem.W.findObj_own c.hd ha rfl hl);have n2:(Value.builtin "BaseException.__getattribute__" == Value.builtin "object.__getattribute__")=false:=by decide +kernel
 have n1:(onTheHeap (Value.ref C) && Value.builtin "BaseException.__getattribute__" == Value.builtin "object.__getattribute__")=false:=by rw [n2];rfl
 have b1:=F.excAttr_ValueError.ga.bind (.ref x);refine wpAny_bind (wpAny_mkText (wpAny_holding (wpAny_bind (L0.at (wpAny_bind (L1.at ?_))))));dsimp only;rw [n1];simp only [Bool.false_eq_true,if_false];unfold getAttrByItsOwn hookBefore callGetattribute boundAndCalled;simp only [onTheHeap,Bool.and_false,Bool.false_eq_true,if_false,if_true];refine wpAny_bind (L2.at (wpAny_bind (wpAny_attempt (wpAny_holding (wpAny_bind (wpAny_of_eq b1 ?_))))));refine wpAny_call (codeAny_call_builtin F.excAttr_ValueError.ga.plain F.entry_bexc_ga (uJ X I c ?_));unfold Builtin.«object.__getattribute__»
 repeat lk
 show wpAny _ _ (handedOut v) _ _ _;exact PySem.W.handed_on hv h
end
def C0 (K:PySem.W.Frag) (f:Str) (x:V) (H:Hp) (Q:VK):Prop:=∃ ea C dx fs v,x=.ref ea/\H ea=some (ExO ea (.ref C) (some dx))/\XCls K C/\PySem.W.findIn K (.ref C) f=some none/\H dx=some (.xd fs)/\fs.lookup f=some v/\Q v H
section
variable {X:Cx} {o:Expr} {ta:TE} {f:Str} {pos:Pos}
theorem Dw {pins:List (Addr × Obj)} {σ:St} {H:Hp} {s:Shared} {x:V} {ov:Value} {Q:VK} {b:Bool} (I:Inv X pins σ H s) (rx:RelV x ov) (h:C0 X.K f x H Q):wpAny (model X.prog X.w) X.A (getAttr ov f b) (EP X pins σ Q) X.xe s:=by
 obtain ⟨ea,C,dx,fs,v,rfl,he,c,hn,hd,hl,q⟩:=h;obtain rfl:ov=Value.ref ea:=rx;obtain ⟨⟨oe,vs,h1,h2,h3,h4,_⟩,_,_⟩:=(show ObjOk X.prog X.w H s.heap ea (ExO ea (.ref C) (some dx)) from I.hok ea _ he);obtain ⟨mA,ns,rl⟩:=(show ObjOk X.prog X.w H s.heap dx (.xd fs) from I.hok dx _ hd);obtain ⟨od,ho,lk⟩:=uL ns;obtain ⟨u,hu,ru⟩:=RelO.some_of (v:=v) (o:=mA f) (by rw [<- hl];exact rl f);have J:PySem.W.InstAt s.heap ea oe C (some od):=⟨h1,h2,by unfold PySem.W.notCls;rw [h4],by rw [h3];exact ho⟩;exact Dv I.kIn J c hn (by rw [lk,hu]) (Ak ru) ⟨v,H,I.tok _,ru,q⟩
theorem DI (K:PySem.W.Frag) (hK:X.K=K) (he:PE X o ta) (hb:attributeBase o f X.env (eval o X.env)=eval o X.env):PE X (.Attribute o f pos) (fun σ H Q=>ta σ H fun x H1=>C0 K f x H1 Q):=by
 subst hK;intro pins s σ H Q I h;exact Dx hb (bc (he pins s σ H _ I h) fun u s1 x H1 I1 rx q=>Dw I1 rx q)
end
theorem DN {K:PySem.W.Frag} {C Tl:Addr} {f:Str} {c0:Value} {dd:Option Addr} {cd:ClassData} {sl:Array (Option Value)} (l:K.lookup C=some ⟨c0,dd,.cls cd,sl⟩) (m:cd.mro=.ref C::.ref Tl::bmV) (h:PySem.W.hasDictIn K C=true)
   (s:PySem.W.findIn K (.ref C) "__setattr__"=some (some (.builtin "object.__setattr__"))) (a:PySem.W.findIn K (.ref C) f=some none):XSet K C Tl f:=by
 obtain ⟨cd',e,hd⟩:=PySem.W.any_some h;have e2:PySem.W.clsIn K C=some cd:=by unfold PySem.W.clsIn;rw [l]
 rw [e2] at e;cases e;exact ⟨s,⟨cd,e2,m,hd⟩,by unfold PySem.W.takerIn;rw [a];rfl⟩
theorem CL {K:PySem.W.Frag} {C fI:Addr} {o:Obj} (nm qn:Str) (N:Addr) (bs bm:List Value) (hdct:Bool) (sn:List Str) (sub:List Value) (ab:Bool) (col:Option Bool) (dd:Option Addr) (k0 k1 k2 k3 k5:Option Value) (l:K.lookup C=some o)
   (e:o=excClassObj nm qn C N bs bm hdct sn sub ab col dd k0 k1 k2 k3 k5 "ValueError.__new__") (a:PySem.W.nsOkIn K N=true) (b:PySem.W.nsIn K N "__init__"=some (some (.ref fI))) (c:PySem.W.tailIn K bmV bm=true) (d:PySem.W.isFn K (.ref fI)=true):jA K C fI:=by
 subst e;exact ⟨_,_,_,_,_,_,_,_,_,_,_,_,_,_,_,_,l,a,b,c,d⟩
end L2
set_option Elab.async false
set_option linter.all false
set_option maxRecDepth 100000
namespace L2
open PySem
def zI (K:PySem.W.Frag) (C':Addr) (ts:TS) (tr:TH):TH:=fun D σ cls od H=>∃ C b,cls=.ref C/\PySem.W.mroIn K C (.ref C')=some b/\if b=true then ts D σ H else tr D σ cls od H
section
variable {X:Cx} {x:Str} {np pos:Pos} {C':Addr} {b0:Stmt} {suite:List Stmt} {ao:List ExceptHandler} {ts:TS} {tr:TH}
end
end L2
namespace Pb
open L2 PySem
theorem tE {H:Hp} {ea dx:Addr} {a b c:HO} (ne:H ea=none) (nd:upd H ea a dx=none) (nde:dx≠ea):Same H (del (upd (upd (upd H ea a) ea b) dx c) ea):=fun q o e=>by
 have n1:q≠ea:=au e ne;have n2:q≠dx:=fun z=>by rw [z] at e;rw [am nde,e] at nd;cases nd
 rw [kf n1,am n2,am n1,am n1];exact e
end Pb
set_option Elab.async false
set_option linter.all false
set_option maxRecDepth 100000
namespace Pb
open L2 PySem
section
variable {m:Int} {rs:List Road}
end
section
variable {m:Int} {rs:List Road} {r:Int} {par:Int->Int} {dep:Int->Nat} {st:Int->Int} {xs ys:List Int}
end
end Pb
set_option Elab.async false
set_option linter.all false
set_option maxRecDepth 100000
namespace L2
open PySem PySem.Spec PyProof.Rows
section
variable {X:Cx}
def EE (t:TE):TE:=fun σ H Q=>t σ H fun x H1=>∃ b,x=.bl b/\Q (.bl (b == true)) H1
end
end L2
namespace Pb
open L2 PySem
section
variable {m:Int} {rs:List Road} {r:Int} {par:Int->Int} {dep:Int->Nat} {P:Int->Int} {xs:List Int}
end
theorem yj {α β γ:Type} {R:α->β->Prop} {R':α->γ->Prop} {f:β->γ} (h:∀ a b,R a b->R' a (f b)):∀ {l₁:List α} {l₂:List β},Paired R l₁ l₂->Paired R' l₁ (l₂.map f)
 | _,_,.nil=>.nil
 | _,_,.cons x xs=>.cons (h _ _ x) (yj h xs)
end Pb
set_option Elab.async false
set_option linter.all false
set_option maxRecDepth 100000
namespace Pb
open L2 PySem
end Pb
set_option Elab.async false
set_option linter.all false
set_option maxRecDepth 100000
namespace L2
open PySem PySem.Spec PyProof.Rows
section
variable {prog:Program} {w:World} {A:Around} {E:Value->Shared->Prop} {s:Shared}
end
section
variable {X:Cx} {tg:Expr} {Nc:List Str} {own:Nat} {js:List Nat} {scope:Scope} {cl:List (Str × Addr)}
end
section
variable {X:Cx} {x n:Str} {np pos:Pos} {i:Nat} {C':Addr} {b0:Stmt} {suite:List Stmt} {ao:List ExceptHandler} {ts:Addr->TS} {tr:TH}
end
end L2
namespace Pb
open L2 PySem
end Pb
set_option Elab.async false
set_option linter.all false
set_option maxRecDepth 100000
namespace Pb
open L2 PySem
end Pb
set_option Elab.async false
set_option linter.all false
set_option maxRecDepth 100000
namespace L2
open PySem
end L2
namespace Pb
open PySem L2
theorem xM {α β:Type} {R S:α->β->Prop}:∀ {l:List α} {l':List β},(∀ a b,a∈l->R a b->S a b)->Paired R l l'->Paired S l l'
 | _,_,_,.nil=>.nil
 | _,_,f,.cons h hs=>.cons (f _ _ List.mem_cons_self h) (xM (fun a b ha=>f a b (List.mem_cons_of_mem _ ha)) hs)
theorem xL {α β:Type} {R:α->β->Prop}:∀ {l:List α} {l':List β},Paired R l l'->∀ {a:α},a∈l->∃ b,R a b
 | _,_,.nil,a,h=>by cases h
 | _,_,.cons (b:=b) h hs,a,ha=>by
   rcases List.mem_cons.mp ha with rfl|ha
   . exact ⟨b,h⟩
   . exact xL hs ha
theorem mh {α β:Type} {R:α->β->Prop} {a:α} {b:β} (e:R a b):∀ {l:List α} {l':List β},Paired R l l'->Paired R (l++[a]) (l'++[b])
 | _,_,.nil=>.cons e .nil
 | _,_,.cons x xs=>.cons x (mh e xs)
section
variable {m:Int} {rs:List Road} {r:Int} {par:Int->Int} {dep:Int->Nat} {nd:Int->Int}
end
end Pb
set_option Elab.async false
set_option linter.all false
set_option maxRecDepth 100000
namespace Pb
open PySem L2
section
variable {m:Int} {rs:List Road} {r:Int} {par:Int->Int} {dep:Int->Nat} {nd:Int->Int}
variable {w:Int->Int}
variable {x st bl:Int->Int}
end
end Pb
set_option Elab.async false
set_option linter.all false
set_option maxRecDepth 100000
namespace Pb
open PySem L2
section
variable {m:Int} {rs:List Road} {r:Int} {par:Int->Int} {dep:Int->Nat} {nd w:Int->Int}
end
end Pb
set_option Elab.async false
set_option linter.all false
set_option maxRecDepth 100000
namespace L2
open PySem PySem.Spec PyProof.Rows
section
variable {X:Cx}
def Dk (t:TE):TE:=fun σ H Q=>t σ H fun x H1=>∃ b,x=.bl b/\Q (.bl (b != false)) H1
end
end L2
namespace L2
open PySem Pb
end L2
set_option Elab.async false
set_option linter.all false
set_option maxRecDepth 100000
namespace Pb
open PySem L2
section
variable {m:Int} {rs:List Road} {r:Int} {par:Int->Int} {dep:Int->Nat} {nd w:Int->Int}
end
end Pb
set_option Elab.async false
set_option linter.all false
set_option maxRecDepth 100000
namespace Pb
open PySem L2
section
variable {m:Int} {rs:List Road} {r:Int} {par:Int->Int} {dep:Int->Nat} {near t u:Int}
end
end Pb
set_option Elab.async false
set_option linter.all false
set_option maxRecDepth 100000
namespace Pb
open PySem L2
section
variable {m:Int} {rs:List Road} {r:Int} {par:Int->Int} {dep:Int->Nat} {nd w:Int->Int}
end
end Pb
set_option Elab.async false
set_option linter.all false
set_option maxRecDepth 100000
namespace Pb
open PySem L2
section
variable {m:Int} {rs:List Road} {r:Int} {par:Int->Int} {dep:Int->Nat} {nd w:Int->Int}
end
end Pb
set_option Elab.async false
set_option linter.all false
set_option maxRecDepth 100000
namespace L2
open PySem PySem.Spec PyProof.Rows
def Dj (i j:Nat) (ta:TA):TS:=fun D σ H=>ta σ H fun vs H1=>∃ v w,vs=[v,w]/\D.nx ((σ.set i (some v)).set j (some w)) H1
end L2
namespace Pb
open PySem L2
end Pb
set_option Elab.async false
set_option linter.all false
set_option maxRecDepth 100000
namespace Pb
open PySem L2
end Pb
set_option Elab.async false
set_option linter.all false
set_option maxRecDepth 100000
namespace Pb
open L2 PySem PySem.W NumText
section
variable {CX:CXT} {X:Cx} {x:Str} {p pos:Pos} {e:Expr} {ex:XK->TE} {T:String} {r:List V->Hp->VK->Prop}
theorem w6 (hc:dk X.nox (.type T) r) (hg:Gl X x) (hm:X.mg x=none) (hv:bootBuiltins x=some (.type T)) (ha:PEx CX X e ex) (hn:x≠"__name__":=by decide) (hdb:(x == ("__debug__":Str))=false:=by decide)
   (he:starEach [e] X.env=(false,eval e X.env)::starEach [] X.env:=by rfl):PEx CX X (.Call (.Name x p) [e] [] pos) (fun E σ H Q=>ex E σ H fun v H1=>r [v] H1 Q):=by
 intro E pins s σ H Q I h;refine wpAny_Call_Name_kw (lU I hg hm hv ?_ hn hdb);refine PyProof.Rows.callWith_type1 ?_ he rfl;rw [he];refine Calls.spliced_cons (wpAny_mono (ha E pins s σ H _ I h) (fun u s1 ⟨v,H1,I1,r1,q1⟩=>Calls.spliced_nil ?_) fun _ _ z=>z);exact wpAny_mono (hc pins s1 σ H1 [v] [u] Q (I1.wish _) (.cons r1 .nil) q1) (fun _ _ ⟨v,H',I',r,q⟩=>⟨v,H',I'.unwish,r,q⟩) fun _ _ z=>False.elim z
end
theorem zP {X:Cx}:MtM X "str.index" (fun x vs H Q=>∃ z y i ao,x=.str z/\vs=[.str y]/\Builtin.Str.occurrences z y 0 z.length 1=i::ao/\Q (.int ((i:Nat):Int)) H):=by
 intro pins s σ H x vs v us Q I rx rv h;obtain ⟨z,y,i,ao,rfl,rfl,ho,q⟩:=h;obtain ⟨t,rfl⟩:=rx;obtain ⟨u',rfl,u,rfl⟩:=fo rv;exact PySem.call_gives PySem.F.slot_str_index (typeIs_str _ _ _) PySem.F.entry_str_index (PySem.F.args_str_index_2 _ _) (PySem.gives_str_index z y t u i ao ho) ⟨.int (i:Nat),H,I.tok _,⟨_,rfl⟩,q⟩
theorem Ey:∀ d:Nat,d<10->Builtin.Str.occurrences (Str.ofString "0123456789") ⟨#[48+d]⟩ 0 (Str.ofString "0123456789").length 1=[d]:=by decide +kernel
theorem BJ {z:Str} {g:TG} {tb:TS} {D:Ends} {σ:St} {H:Hp} (Pv:Nat->St->Hp->Prop) (h0:Pv 0 σ H)
   (hs:∀ (i c:Nat) (σ:St) (H:Hp) (N:St->Hp->Prop),(∀ σ' H',Pv (i+1) σ' H'->N σ' H')->z.cps.toList[i]?=some c->Pv i σ H->g (.str ⟨#[c]⟩) σ H fun σ2 H2=>tb { D with nx:=N,ct:=N,bk:=D.nx } σ2 H2) (hd:∀ σ H,Pv z.cps.toList.length σ H->D.nx σ H) :
   jE (Its z) D g tb σ H:=by
 have sz:z.cps.size=z.cps.toList.length:=by simp
 refine ⟨fun i m σ H=>m=z.cps.toList.length - i/\i<=z.cps.toList.length/\Pv i σ H,⟨z.cps.toList.length,by simp,Nat.zero_le _,h0⟩,?_⟩;rintro i m σ H ⟨rfl,hi,pv⟩;by_cases hlt:i<z.cps.toList.length
 . refine .inr ⟨by show i<z.cps.size;omega,Pv (i+1),fun σ' H' pv'=>⟨z.cps.toList.length - (i+1),by omega,rfl,hlt,pv'⟩,fun x H' y=>?_⟩;obtain ⟨rfl,c,hc,rfl⟩:=y;exact hs i c σ _ (Pv (i+1)) (fun _ _ z=>z) (by rw [Array.getElem?_toList];exact hc) pv
 . have e:i=z.cps.toList.length:=by omega
   subst e;exact .inl ⟨by show z.cps.size<=_;omega,hd σ H pv⟩
def nv (l:List Nat):Nat:=l.foldl (fun a c=>a*10+(c - 48)) 0
theorem yd (l:List Nat) (d:Nat):nv (l++[d])=nv l*10+(d - 48):=by
 unfold nv;rw [List.foldl_append]
 rfl
structure Fig (l:List Nat):Prop where
 len1:1<=l.length
 len60:l.length<=60
 all:∀ c∈l,48<=c/\c<=57
 lead:l=[48]\/l.head?≠some 48
theorem yc:∀ (k:Nat) (l:List Nat),l.length=k->l≠[]->(∀ c∈l,48<=c/\c<=57)->(l=[48]\/l.head?≠some 48)->gI (nv l)=l/\(l.head?≠some 48->0<nv l)/\nv l<10^l.length
 | 0,l,hk,ne,_,_=>absurd (List.length_eq_zero_iff.mp hk) ne
 | k+1,l,hk,ne,al,ld=>by
   obtain ⟨i,d,e⟩:=(List.eq_nil_or_concat l).resolve_left ne;rw [List.concat_eq_append] at e;subst e;have hd:=al d (by simp);rw [yd,List.length_append,List.length_singleton,Nat.pow_succ];by_cases hi:i=[]
   . subst hi;have z:nv []=0:=rfl;rw [z,Nat.zero_mul,Nat.zero_add];refine ⟨?_,fun h=>?_,?_⟩
     . rw [ir (by omega),show 48+(d - 48)=d by omega]
       rfl
     . have:d≠48:=fun z=>h (by rw [z];rfl);omega
     . show d - 48<1*10;omega
   . have hh:(i++[d]).head?=i.head?:=by
       cases i with
       | nil=>exact absurd rfl hi
       | cons _ _=>rfl
     have h48:i.head?≠some 48:=by
       rcases ld with h|h
       . have:=congrArg List.length h;rw [List.length_append] at this;have p:=List.length_pos_iff.mpr hi;rw [List.length_singleton,List.length_singleton] at this;omega
       . rw [hh] at h;exact h
     obtain ⟨h1,h2,h3⟩:=yc k i (by rw [List.length_append] at hk;simpa using hk) hi (fun c hc=>al c (List.mem_append.mpr (.inl hc))) (.inr h48);have p:=h2 h48;refine ⟨?_,fun _=>by omega,by omega⟩;rw [lZ (by omega),show (nv i*10+(d - 48)) / 10=nv i by omega,h1,show 48+(nv i*10+(d - 48)) % 10=d by omega]
theorem Fig.fs {w:Str} (h:Fig w.cps.toList):w=FS (nv w.cps.toList)/\nv w.cps.toList<10^60:=by
 have ne:w.cps.toList≠[]:=fun z=>by have:=h.len1;rw [z] at this;simp at this
 obtain ⟨h1,_,h3⟩:=yc _ _ rfl ne h.all h.lead;exact ⟨jG (by rw [lD,h1]),Nat.lt_of_lt_of_le h3 (Nat.pow_le_pow_right (by decide) h.len60)⟩
theorem AE {n:Nat} (h:n<10^60):Fig (FS n).cps.toList:=by
 rw [lD];refine ⟨List.length_pos_iff.mpr (xX n),mP 59 n h,gX n,?_⟩;by_cases z:n=0
 . subst z;exact .inl rfl
 . obtain ⟨c,r,e,hc⟩:=A7 n (by omega);refine .inr ?_;rw [e];exact fun q=>hc (by injection q)
theorem Fh (n:Nat) (h:n<10^60):nv (FS n).cps.toList=n:=by
 have:=(AE h).fs.1;have e:=congrArg (fun s:Str=>digitsVal s.cps.toList) this;simp only [lD,vH] at e;exact e.symm
open Classical in
noncomputable def numW (w:Str):Option Nat:=if Fig w.cps.toList then some (nv w.cps.toList) else none
theorem oP {w:Str} {n:Nat}:numW w=some n↔n<10^60/\w=FS n:=by
 unfold numW
 constructor
 . intro h;split at h
   . next f =>
     injection h with h
     rw [<- h];exact ⟨f.fs.2,f.fs.1⟩
   . cases h
 . rintro ⟨h,rfl⟩;rw [if_pos (AE h),Fh n h]
theorem iL {w:Str}:numW w=none↔¬ Fig w.cps.toList:=by
 unfold numW;split
 . next f=>exact ⟨fun h=>(by cases h),fun h=>absurd f h⟩
 . next f=>exact ⟨fun _=>f,fun _=>rfl⟩
theorem uK {c:Nat}:(!(Builtin.Str.occurrences (Str.ofString "0123456789") ⟨#[c]⟩ 0 (Str.ofString "0123456789").length 1).isEmpty)=decide (48<=c/\c<=57):=by
 by_cases h:48<=c/\c<=57
 . rw [Fs h,decide_eq_true h]
 . rw [StrLaws.found_one,decide_eq_false h,decide_eq_false_iff_not];intro m;have l:(Str.ofString "0123456789").cps.toList=[48,49,50,51,52,53,54,55,56,57]:=by decide +kernel
   rw [l] at m;simp at m;omega
def wrds (z:Str):List Str:=if z=Str.ofString "" then [] else Txt.split z (Str.ofString " ")
def WOk (w:Str):Prop:=(w.cps.all fun x=>decide (x<128))=true/\w.length<=60000
def prts (z:Str):List Str:=if z=Str.ofString "." then [] else Txt.split z (Str.ofString " / ")
def wsp (z:Str):List Str:=Txt.split z (Str.ofString " ")
def fz (p:Str) (ns:List Nat):Prop:=(wsp p).map numW=ns.map some/\ns.length=3
def El (p:Str):Prop:=p.length<=60000/\(wsp p).length<=2000/\∀ w∈wsp p,WOk w
theorem pG:∀ {ws:List Str},(∀ w∈ws,numW w≠none)->∃ ns:List Nat,ws.map numW=ns.map some
 | [],_=>⟨[],rfl⟩
 | w::ws,h=>by
   obtain ⟨ns,e⟩:=pG (ws:=ws) fun x hx=>h x (.tail _ hx);cases hw:numW w with
   | none=>exact absurd hw (h w (.head _))
   | some n=>exact ⟨n::ns,by rw [List.map_cons,List.map_cons,hw,e]⟩
end Pb
set_option Elab.async false
set_option linter.all false
set_option maxRecDepth 100000
namespace L2
open PySem PySem.Spec PyProof.Rows
def rSlS:V->Option Int->Option Int->Hp->VK->Prop:=fun x lo hi H Q=>∃ z,x=.str z/\z.length<=sizeLine/\Q (.str (Txt.slice z lo hi)) H
theorem Au {X:Cx}:SlR X rSlS:=by
 intro pins s σ H x v vl vu lo hi sl Q I rx hs pl pu h;obtain ⟨z,rfl,hz,q⟩:=h;obtain ⟨t,rfl⟩:=rx;refine ⟨"str",_,PySem.F.slot_str_getitem.lookup,typeIs_str _ _ _,?_⟩;have fin:∀ t' k,EP X pins σ Q (.str (Txt.slice z lo hi) t') { s with toks:=k }:=fun t' k=>⟨.str _,H,I.tok _,⟨_,rfl⟩,q⟩;obtain ⟨o,h1,h2,h3⟩:=hs;cases pl with
 | none =>
   cases pu with
   | none=>exact wpAny_getItem_str_slice (l:=none) (u:=none) (st:=none) ⟨o,h1,h2,h3⟩ rfl (post_val_or_str ⟨Nat.le_trans (Txt.slice_le z _ _) hz,fin⟩)
   | int j uj=>exact wpAny_getItem_str_slice (l:=none) (u:=some (j,uj)) (st:=none) ⟨o,h1,h2,h3⟩ rfl (post_val_or_str ⟨Nat.le_trans (Txt.slice_le z _ _) hz,fin⟩)
 | int i ui =>
   cases pu with
   | none=>exact wpAny_getItem_str_slice (l:=some (i,ui)) (u:=none) (st:=none) ⟨o,h1,h2,h3⟩ rfl (post_val_or_str ⟨Nat.le_trans (Txt.slice_le z _ _) hz,fin⟩)
   | int j uj=>exact wpAny_getItem_str_slice (l:=some (i,ui)) (u:=some (j,uj)) (st:=none) ⟨o,h1,h2,h3⟩ rfl (post_val_or_str ⟨Nat.le_trans (Txt.slice_le z _ _) hz,fin⟩)
theorem sS {X:Cx}:OpR X (binaryOp .Mult) (fun x y H Q=>∃ z n,x=.str z/\y=.int n/\MulOk z n/\Q (.str (Txt.mul z n)) H):=by
 intro pins s σ H x y v u Q I rx ry h;obtain ⟨z,n,rfl,rfl,hm,q⟩:=h;obtain ⟨t,rfl⟩:=rx;obtain ⟨t',rfl⟩:=ry;exact SB.mul hm fun t' k=>⟨.str _,H,I.tok _,⟨_,rfl⟩,q⟩
end L2
namespace Pb
open L2 PySem PySem.W NumText
theorem ug {z:Str} {l u:Option Int}:∀ c∈(Txt.slice z l u).cps.toList,c∈z.cps.toList:=fun c hc=>by
 unfold Txt.slice at hc;split at hc
 . exact hc
 . simp only [List.mem_filterMap] at hc;obtain ⟨i,_,hi⟩:=hc;exact List.mem_of_getElem? (by rw [Array.getElem?_toList];exact hi)
theorem yJ {hi:Int} {g:TG} {tb:TS} {D:Ends} {σ:St} {H:Hp} (Pv:Nat->St->Hp->Prop) (h0:Pv 0 σ H)
   (hs:∀ (i:Nat) (σ:St) (H:Hp) (N:St->Hp->Prop),(∀ σ' H',Pv (i+1) σ' H'->N σ' H')->4*(i:Int)<hi->Pv i σ H->g (.int (4*(i:Int))) σ H fun σ2 H2=>tb { D with nx:=N,ct:=N,bk:=D.nx } σ2 H2) (hd:∀ (i:Nat) σ H,hi<=4*(i:Int)->Pv i σ H->D.nx σ H) :
   jE (BM 0 4 (Builtin.Range.rangeSize 0 hi 4).toNat) D g tb σ H:=by
 generalize hn:(Builtin.Range.rangeSize 0 hi 4).toNat=n;rw [sd (by decide)] at hn;have bound:∀ i:Nat,i<n↔4*(i:Int)<hi:=fun i=>by
   split at hn <;> omega
 refine ⟨fun i m σ H=>m=n - i/\i<=n/\Pv i σ H,⟨n,by simp,Nat.zero_le _,h0⟩,?_⟩;rintro i m σ H ⟨rfl,hi',p⟩;by_cases hlt:i<n
 . refine .inr ⟨hlt,fun σ' H'=>∃ m',m'<n - i/\(m'=n - (i+1)/\i+1<=n/\Pv (i+1) σ' H'),fun σ' H' z=>z,fun x H' y=>?_⟩;obtain ⟨e,y⟩:=y;subst e y;rw [show (0:Int)+(i:Int)*4=4*(i:Int) by omega];exact hs i σ _ _ (fun σ' H' p'=>⟨n - (i+1),by omega,rfl,hlt,p'⟩) ((bound i).mp hlt) p
 . have e:i=n:=by omega
   subst e;exact .inl ⟨Nat.le_refl _,hd _ σ H (by have:=mt (bound i).mpr (Nat.lt_irrefl _);omega) p⟩
theorem uy {s:List Nat}:∀ {l:List (List Nat)} {x:List Nat},x∈l->(∀ c∈x,c∈aU s l)/\x.length<=(aU s l).length
 | [],x,h=>by cases h
 | [y],x,h=>by rw [List.mem_singleton.mp h];exact ⟨fun _ z=>z,Nat.le_refl _⟩
 | y::y'::r,x,h=>by
   have e:aU s (y::y'::r)=y++s++aU s (y'::r):=rfl;rw [e];rcases List.mem_cons.mp h with rfl|h
   . exact ⟨fun c hc=>List.mem_append.mpr (.inl (List.mem_append.mpr (.inl hc))),by rw [List.length_append,List.length_append];omega⟩
   . obtain ⟨h1,h2⟩:=uy (s:=s) h;exact ⟨fun c hc=>List.mem_append.mpr (.inr (h1 c hc)),by rw [List.length_append];omega⟩
theorem uM {s:List Nat} (hs:1<=s.length):∀ l:List (List Nat),l.length<=(aU s l).length+1
 | []=>Nat.zero_le _
 | [y]=>by rw [List.length_singleton];omega
 | y::y'::r=>by
   have e:aU s (y::y'::r)=y++s++aU s (y'::r):=rfl;have:=uM hs (y'::r);rw [e,List.length_append,List.length_append,List.length_cons];omega
theorem sM (z y:Str):aU y.cps.toList ((Txt.split z y).map (·.cps.toList))=z.cps.toList:=by
 have e:=congrArg (fun s:Str=>s.cps.toList) (StrLaws.join_split z y);simp only [cZ] at e;exact e
theorem ot {z y p:Str} (h:p∈Txt.split z y):(∀ c∈p.cps.toList,c∈z.cps.toList)/\p.length<=z.length:=by
 obtain ⟨h1,h2⟩:=uy (s:=y.cps.toList) (List.mem_map.mpr ⟨p,h,rfl⟩:p.cps.toList∈(Txt.split z y).map (·.cps.toList));rw [sM] at h1 h2;exact ⟨h1,by rw [bq,bq];exact h2⟩
theorem um {z y:Str} (hy:1<=y.length):(Txt.split z y).length<=z.length+1:=by
 have:=uM (s:=y.cps.toList) (by rw [<- bq];exact hy) ((Txt.split z y).map (·.cps.toList));rw [sM,List.length_map,<- bq] at this;exact this
theorem vQ (z y:Str):Txt.split z y≠[]:=fun e=>by
 have n:=PyProof.Rows.split_pos z y;rw [e] at n;simp at n
def Pl (z:Str):Prop:=∀ c∈z.cps.toList,c<128/\c≠10
theorem Pl.wok {z:Str} (h:Pl z) (l:z.length<=60000):WOk z:=by
 refine ⟨?_,l⟩;rw [Array.all_eq_true_iff_forall_mem];intro x hx;rw [decide_eq_true_eq];exact (h x (by simpa using hx)).1
theorem Pl.sub {z w:Str} (h:Pl z) (hw:∀ c∈w.cps.toList,c∈z.cps.toList):Pl w:=fun c hc=>h c (hw c hc)
theorem Pl.app {a b:Str} (h:Pl a) (g:Pl b):Pl (a++b):=fun c hc=>by
 rw [app_list] at hc;exact (List.mem_append.mp hc).elim (h c) (g c)
theorem Pl.join {s:Str} {l:List Str} (hs:Pl s) (hl:∀ w∈l,Pl w):Pl (Str.join s l):=fun c hc=>by
 rw [cZ] at hc;rcases kX hc with hc|⟨x,hx,hc⟩
 . exact hs c hc
 . obtain ⟨w,hw,rfl⟩:=List.mem_map.mp hx;exact hl w hw c hc
theorem Pl.fs (n:Nat):Pl (FS n):=fun c hc=>by
 have:=gX n c hc;omega
theorem Pl.row {z:Str} (h:Pl z):10 ∉ z.cps.toList:=fun e=>(h 10 e).2 rfl
structure Rw (z:Str):Prop where
 pl:Pl z
 len:z.length<=1900
theorem Rw.wsp {z:Str} (h:Rw z):z.length<=60000/\(wsp z).length<=2000/\∀ w∈wsp z,WOk w:=by
 have:=h.len;have c:(Pb.wsp z).length<=z.length+1:=um (y:=Str.ofString " ") (by decide);refine ⟨by omega,by omega,fun w hw=>?_⟩;have s:=ot hw;exact (h.pl.sub s.1).wok (by omega)
theorem Rw.wrds {z:Str} (h:Rw z):z.length<=60000/\(wrds z).length<=2000/\∀ w∈wrds z,WOk w:=by
 obtain ⟨h1,h2,h3⟩:=h.wsp;unfold Pb.wrds;split
 . exact ⟨h1,by simp,fun w hw=>by cases hw⟩
 . exact ⟨h1,h2,h3⟩
theorem Rw.part {z p y:Str} (h:Rw z) (hp:p∈Txt.split z y):Rw p:=⟨h.pl.sub (ot hp).1,Nat.le_trans (ot hp).2 h.len⟩
theorem Rw.prts {z:Str} (h:Rw z):z.length<=60000/\(prts z).length<=2000/\∀ p∈prts z,El p:=by
 have:=h.len;refine ⟨by omega,?_⟩;unfold Pb.prts;split
 . exact ⟨by simp,fun p hp=>by cases hp⟩
 . have c:(Txt.split z (Str.ofString " / ")).length<=z.length+1:=um (by decide);exact ⟨by omega,fun p hp=>(h.part hp).wsp⟩
def slash:Str:=Str.ofString "/"
def stp (ss:List (List Nat)):List Str:=ss.flatMap fun ns=>ns.map FS++[slash]
def wo (ss:List (List Nat)):List Str:=(stp ss).dropLast
def Ste (ss:List (List Nat)):Prop:=∀ ns∈ss,ns.length=3/\∀ n∈ns,n<10^60
theorem Ste.nil:Ste []:=fun _ h=>by cases h
theorem Ste.snoc {ss:List (List Nat)} {ns:List Nat} (h:Ste ss) (l:ns.length=3) (g:∀ n∈ns,n<10^60):Ste (ss++[ns]):=fun x hx=>by
 rcases List.mem_append.mp hx with hx|hx
 . exact h x hx
 . rw [List.mem_singleton.mp hx];exact ⟨l,g⟩
theorem qz (ns:List Nat) (ss:List (List Nat)):stp (ns::ss)=ns.map FS++slash::stp ss:=by
 show (ns.map FS++[slash])++stp ss=_;rw [List.append_assoc]
 rfl
theorem v8 (ss:List (List Nat)) (ns:List Nat):stp (ss++[ns])=(stp ss++ns.map FS)++[slash]:=by
 unfold stp;rw [List.flatMap_append,List.append_assoc];simp
theorem yh (ss:List (List Nat)) (ns:List Nat):wo (ss++[ns])=stp ss++ns.map FS:=by
 unfold wo;rw [v8,List.dropLast_concat]
theorem E6 {ss:List (List Nat)} (h:ss≠[]):stp ss≠[]:=by
 cases ss with
 | nil=>exact absurd rfl h
 | cons ns ss=>rw [qz];simp
theorem DK {ss:List (List Nat)} (h:ss≠[]) (ns:List Nat):wo (ns::ss)=ns.map FS++slash::wo ss:=by
 unfold wo;have e:stp (ns::ss)=(ns.map FS++[slash])++stp ss:=rfl;rw [e,List.dropLast_append_of_ne_nil (E6 h),List.append_assoc]
 rfl
theorem Ed (ns:List Nat):wo [ns]=ns.map FS:=by
 have:=yh [] ns;exact this
theorem pA:∀ {ss:List (List Nat)},Ste ss->(stp ss).length=4*ss.length
 | [],_=>rfl
 | ns::ss,h=>by
   have:=pA (ss:=ss) fun x hx=>h x (.tail _ hx);have:=(h ns (.head _)).1;rw [qz,List.length_append,List.length_cons,List.length_cons,List.length_map];omega
theorem zO {ss:List (List Nat)} (h:Ste ss):(wo ss).length=4*ss.length - 1:=by
 unfold wo;rw [List.length_dropLast,pA h]
theorem qw:∀ {ss:List (List Nat)},Ste ss->∀ {i:Nat} {ns:List Nat},ss[i]?=some ns->(stp ss).drop (4*i)=ns.map FS++slash::stp (ss.drop (i+1))
 | [],_,i,ns,h=>by simp at h
 | n0::ss,hs,0,ns,h=>by
   cases h;rw [qz]
   rfl
 | n0::ss,hs,i+1,ns,h=>by
   have:=qw (ss:=ss) (fun x hx=>hs x (.tail _ hx)) (i:=i) (ns:=ns) h;have l:=(hs n0 (.head _)).1;have e:stp (n0::ss)=(n0.map FS++[slash])++stp ss:=rfl;rw [e,show 4*(i+1)=(n0.map FS++[slash]).length+4*i by rw [List.length_append,List.length_map,List.length_singleton];omega,List.drop_append,List.drop_of_length_le (by omega),Nat.add_sub_cancel_left,this]
   rfl
theorem Fg {ss:List (List Nat)} (h:Ste ss) {i:Nat} {ns:List Nat} (hi:ss[i]?=some ns):((wo ss).drop (4*i)).take 3=ns.map FS:=by
 have l:=(h ns (List.mem_of_getElem? hi)).1;have il:=(List.getElem?_eq_some_iff.mp hi).1;have p:=qw h hi;have e:wo ss=(stp ss).take (4*ss.length - 1):=by
   unfold wo;rw [List.dropLast_eq_take,pA h]
 rw [e,List.drop_take,List.take_take,p,Nat.min_eq_left (by omega),List.take_left' (by rw [List.length_map,l])]
theorem BH {ss:List (List Nat)} (h:Ste ss) {i:Nat} (hi:i+1<ss.length):(wo ss)[4*i+3]?=some slash:=by
 obtain ⟨ns,hn⟩:∃ ns,ss[i]?=some ns:=⟨_,List.getElem?_eq_getElem (by omega)⟩;have l:=(h ns (List.mem_of_getElem? hn)).1;have p:=qw h hn;have e:wo ss=(stp ss).take (4*ss.length - 1):=by
   unfold wo;rw [List.dropLast_eq_take,pA h]
 rw [e,List.getElem?_take_of_lt (by omega),<- List.getElem?_drop,p,List.getElem?_append_right (by rw [List.length_map];omega),List.length_map,l]
 rfl
theorem pp {s:List Nat} {B:List (List Nat)} (hB:B≠[]):∀ {A:List (List Nat)},A≠[]->aU s (A++B)=aU s A++s++aU s B
 | [],h=>absurd rfl h
 | [a],_=>by
   cases B with
   | nil=>exact absurd rfl hB
   | cons b B=>rfl
 | a::a'::r,_=>by
   have:=pp (s:=s) hB (A:=a'::r) (by simp);show a++s++aU s ((a'::r)++B)=a++s++aU s (a'::r)++s++aU s B;rw [this];simp only [List.append_assoc]
theorem Ds {ss:List (List Nat)} (h:Ste ss) (n:ss≠[]):wo ss≠[]:=fun e=>by
 have:=zO h;rw [e] at this;have:=List.length_pos_iff.mpr n;simp at *;omega
theorem xR:∀ {ss:List (List Nat)},Ste ss->ss≠[]->aU [32] ((wo ss).map (·.cps.toList))=(stx ss).cps.toList
 | [],_,h=>absurd rfl h
 | [ns],_,_=>by
   rw [Ed,nw (by simp),List.map_map];show _=(wds ns).cps.toList;rw [qv]
   rfl
 | ns::ms::r,h,_=>by
   have hr:Ste (ms::r):=fun x hx=>h x (.tail _ hx);have l:=(h ns (.head _)).1;have ih:=xR hr (by simp);rw [DK (by simp),List.map_append,List.map_cons,pp (by simp) (by intro e;rw [List.map_map,List.map_eq_nil_iff] at e;rw [e] at l;cases l)];have e2:aU [32] (slash.cps.toList::(wo (ms::r)).map (·.cps.toList))=[47]++[32]++aU [32] ((wo (ms::r)).map (·.cps.toList)):=by
     have:=pp (s:=[32]) (B:=(wo (ms::r)).map (·.cps.toList)) (by simpa using Ds hr (by simp)) (A:=[slash.cps.toList]) (by simp);exact this
   rw [e2,ih,nw (by simp),nw (by simp)];have e3:aU [32] ((ns.map FS).map (·.cps.toList))=(wds ns).cps.toList:=by rw [qv,List.map_map];rfl
   rw [e3];show _=(wds ns).cps.toList++[32,47,32]++aU [32,47,32] ((ms::r).map fun ns=>(wds ns).cps.toList);simp only [List.append_assoc]
   rfl
theorem xT {ss:List (List Nat)} (h:Ste ss) (n:ss≠[]):Str.join (Str.ofString " ") (wo ss)=stx ss:=jG (by rw [cZ,<- xR h n];rfl)
theorem Dz {ss:List (List Nat)}:∀ w∈wo ss,32 ∉ w.cps.toList:=fun w hw e=>by
 have:=List.dropLast_subset _ hw;unfold stp at this;obtain ⟨ns,_,hw⟩:=List.mem_flatMap.mp this;rcases List.mem_append.mp hw with hw|hw
 . obtain ⟨n,_,rfl⟩:=List.mem_map.mp hw;have:=gX n 32 e;omega
 . rw [List.mem_singleton.mp hw] at e;have:32∈[47]:=e;simp at this
theorem DU {ss:List (List Nat)} (h:Ste ss) (n:ss≠[]):wsp (stx ss)=wo ss:=by
 rw [<- xT h n];exact mF (c:=32) (Ds h n) Dz
theorem E9 {ss:List (List Nat)} {z:Str} (h:Ste ss) (n:ss≠[]) (e:wsp z=wo ss):z=stx ss:=by
 rw [<- xT h n,<- e];exact (StrLaws.join_split z (Str.ofString " ")).symm
def eY:Option Nat->V
 | some n=>.int (n:Int)
 | none=>.non
theorem tD:∀ {ws:List Str} {ns:List Nat},ws.map numW=ns.map some->ws.map (fun w=>eY (numW w))=vNs ns
 | [],[],_=>rfl
 | [],_::_,e=>by cases e
 | _::_,[],e=>by cases e
 | w::ws,n::ns,e=>by
   obtain ⟨e1,e2⟩:=List.cons.inj e;rw [List.map_cons,tD e2,e1]
   rfl
theorem DP (ws:List Str):(∃ w∈ws,numW w=none)/\inV V.non (ws.map fun w=>eY (numW w))=true\/∃ ns:List Nat,ws.map numW=ns.map some/\inV V.non (ws.map fun w=>eY (numW w))=false:=by
 by_cases bad:∃ w∈ws,numW w=none
 . refine .inl ⟨bad,?_⟩;unfold inV;rw [List.any_eq_true];obtain ⟨w,hw,z⟩:=bad;exact ⟨_,List.mem_map.mpr ⟨w,hw,rfl⟩,by rw [z];rfl⟩
 . obtain ⟨ns,en⟩:=pG (ws:=ws) (fun w hw z=>bad ⟨w,hw,z⟩);refine .inr ⟨ns,en,?_⟩;rw [<- Bool.not_eq_true];unfold inV;rw [List.any_eq_true];rintro ⟨x,hx,hz⟩;obtain ⟨w,hw,rfl⟩:=List.mem_map.mp hx;cases hn:numW w with
   | none=>exact bad ⟨w,hw,hn⟩
   | some n=>rw [hn] at hz;cases hz
theorem tX:∀ {ws:List Str} {ns:List Nat},ws.map numW=ns.map some->ws=ns.map FS/\∀ n∈ns,n<10^60
 | [],[],_=>⟨rfl,fun _ h=>by cases h⟩
 | [],_::_,e=>by cases e
 | _::_,[],e=>by cases e
 | w::ws,n::ns,e=>by
   obtain ⟨e1,e2⟩:=List.cons.inj e;obtain ⟨h1,h2⟩:=tX e2;obtain ⟨g1,g2⟩:=oP.mp e1;exact ⟨by rw [List.map_cons,g2,h1],fun x hx=>by
     rcases List.mem_cons.mp hx with rfl|hx
     . exact g1
     . exact h2 x hx⟩
theorem xK {ns:List Nat} (h:∀ n∈ns,n<10^60):(ns.map FS).map numW=ns.map some:=by
 rw [List.map_map];exact List.map_congr_left fun n hn=>oP.mpr ⟨h n hn,rfl⟩
theorem zW {p:Str} {ns:List Nat} (h:fz p ns):p=wds ns/\ns.length=3/\∀ n∈ns,n<10^60:=by
 obtain ⟨h1,h2⟩:=h;obtain ⟨g1,g2⟩:=tX h1;refine ⟨?_,h2,g2⟩;have:=StrLaws.join_split p (Str.ofString " ");unfold wsp at g1;rw [g1] at this;exact this.symm
theorem Ar {ns:List Nat} (l:ns.length=3) (h:∀ n∈ns,n<10^60):fz (wds ns) ns:=by
 refine ⟨?_,l⟩;unfold wsp;rw [z9 (by intro e;rw [e] at l;cases l)];exact xK h
theorem Aj:∀ {ps:List Str} {ss:List (List Nat)},Paired fz ps ss->ps=ss.map wds/\Ste ss
 | _,_,.nil=>⟨rfl,Ste.nil⟩
 | _,_,.cons e h=>by
   obtain ⟨h1,h2,h3⟩:=zW e;obtain ⟨g1,g2⟩:=Aj h;refine ⟨by rw [List.map_cons,h1,g1],fun x hx=>?_⟩;rcases List.mem_cons.mp hx with rfl|hx
   . exact ⟨h2,h3⟩
   . exact g2 x hx
theorem Ae {z:Str} {ss:List (List Nat)} (h:Paired fz (prts z) ss):z=stx ss/\Ste ss:=by
 obtain ⟨h1,h2⟩:=Aj h;refine ⟨?_,h2⟩;unfold prts at h1;split at h1
 . next e =>
   have:ss=[]:=List.map_eq_nil_iff.mp h1.symm;rw [this,e]
   rfl
 . have n:ss≠[]:=fun e=>by rw [e] at h1;exact vQ _ _ h1
   unfold stx;rw [if_neg n,<- h1];exact (StrLaws.join_split z _).symm
theorem vV {ss:List (List Nat)} (h:Ste ss):Paired fz (prts (stx ss)) ss:=by
 by_cases n:ss=[]
 . subst n;exact .nil
 . unfold prts;rw [if_neg (Ej n),Af n];clear n
   induction ss with
   | nil=>exact .nil
   | cons ns ss ih=>exact .cons (Ar (h ns (.head _)).1 (h ns (.head _)).2) (ih fun x hx=>h x (.tail _ hx))
theorem EI {r0:Str} (c:r0≠Str.ofString ".") {i:Nat} (hi:4*i<(wsp r0).length):(∃ ss,Ste ss/\r0=stx ss)->∃ ns:List Nat,ns.length=3/\(((wsp r0).drop (4*i)).take 3).map numW=ns.map some/\(4*i+3<(wsp r0).length->(wsp r0)[4*i+3]?=some slash/\4*i+4≠(wsp r0).length):=by
 rintro ⟨ss,hs,rfl⟩;have n:ss≠[]:=fun e=>c (by rw [e];rfl);rw [DU hs n] at hi ⊢;have l:=zO hs;rw [l] at hi ⊢;obtain ⟨ns,hn⟩:∃ ns,ss[i]?=some ns:=⟨_,List.getElem?_eq_getElem (by omega)⟩;obtain ⟨g1,g2⟩:=hs ns (List.mem_of_getElem? hn);refine ⟨ns,g1,?_,fun h3=>⟨BH hs (by omega),by omega⟩⟩;rw [Fg hs hn];exact xK g2
theorem Ek {W:List Str} {ss:List (List Nat)} {i:Nat} {ns:List Nat} (hs:Ste ss) (t:W.take (4*i)=stp ss) (e:((W.drop (4*i)).take 3).map numW=ns.map some) (l3:ns.length=3) (hm:4*i+3<W.length->W[4*i+3]?=some slash/\4*i+4≠W.length) :
   Ste (ss++[ns])/\(4*(i+1)<W.length->W.take (4*(i+1))=stp (ss++[ns]))/\(W.length<=4*(i+1)->ss++[ns]≠[]/\W=wo (ss++[ns])):=by
 obtain ⟨e1,e2⟩:=tX e;have lw:=congrArg List.length e;rw [List.length_map,List.length_map,List.length_take,List.length_drop,l3] at lw;refine ⟨hs.snoc l3 e2,fun h=>?_,fun h=>⟨by simp,?_⟩⟩
 . obtain ⟨h1,h2⟩:=hm (by omega);rw [v8,<- t,<- e1,show 4*(i+1)=4*i+3+1 by omega,List.take_succ,h1,List.take_add]
   rfl
 . have:¬ 4*i+3<W.length:=fun z=>(hm z).2 (by omega);rw [yh,<- t,<- e1,List.take_of_length_le (l:=W.drop (4*i)) (by rw [List.length_drop];omega),List.take_append_drop]
theorem DZ (zs:List V) {a b:Int} (a0:0<=a) (ab:a<=b):kh zs (some a) (some b)=(zs.drop a.toNat).take (b - a).toNat:=by
 unfold kh;have e1:HT.sIx zs.length 0 (some a)=min a.toNat zs.length:=by
   show (if a<0 then (a+(zs.length:Int)).toNat else min a.toNat zs.length)=_;rw [if_neg (by omega)]
 have e2:HT.sIx zs.length zs.length (some b)=min b.toNat zs.length:=by
   show (if b<0 then (b+(zs.length:Int)).toNat else min b.toNat zs.length)=_;rw [if_neg (by omega)]
 have e3:zs.drop (min a.toNat zs.length)=zs.drop a.toNat:=by
   by_cases c:a.toNat<=zs.length
   . rw [Nat.min_eq_left c]
   . rw [Nat.min_eq_right (by omega),List.drop_of_length_le (Nat.le_refl _),List.drop_of_length_le (by omega)]
 rw [e1,e2,e3,List.take_eq_take_iff,List.length_drop];omega
def r6 (r0:Str):Prop:=∃ ns:List Nat,(wrds r0).map numW=ns.map some
def rf (r0:Str):Prop:=∃ ss:List (List Nat),Paired fz (prts r0) ss
def Fnd (good:Prop) (ao:List Str) (fv:V):Prop:=(good/\ao=[]/\fv=.non)\/(¬ good/\fv=.int 1)\/(good/\ao≠[]/\fv=.int 2)
theorem qu {r0:Str} (h:∃ w∈wrds r0,numW w=none):¬ r6 r0:=fun ⟨ns,e⟩=>by
 obtain ⟨w,hw,z⟩:=h;have:numW w∈ns.map some:=by rw [<- e];exact List.mem_map.mpr ⟨w,hw,rfl⟩
 rw [z] at this;obtain ⟨n,_,e⟩:=List.mem_map.mp this;cases e
theorem wa {r0:Str} (h:∃ p∈prts r0,(wsp p).length≠3\/∃ w∈wsp p,numW w=none):¬ rf r0:=fun ⟨ss,e⟩=>by
 obtain ⟨p,hp,z⟩:=h;obtain ⟨ns,t1,t2⟩:=xL e hp;rcases z with z|⟨w,hw,z⟩
 . have:=congrArg List.length t1;rw [List.length_map,List.length_map,t2] at this;exact z this
 . have:numW w∈ns.map some:=by rw [<- t1];exact List.mem_map.mpr ⟨w,hw,rfl⟩
   rw [z] at this;obtain ⟨n,_,e⟩:=List.mem_map.mp this;cases e
def WsO (m n:Nat) (ws:List Str):Prop:=ws.length<=n/\∀ w∈ws,Pl w/\w.length<=m
theorem uT {K:PySem.W.Frag} {H:Hp}:∀ ws:List Str,(∀ w∈ws,PyData.canLay0 (.str w)=true)->DeepAll K H (ws.map V.str) (ws.map PyData.str)
 | [],_=>.nil
 | w::ws,h=>.cons (.str (h w (.head _))) (uT ws fun x hx=>h x (.tail _ hx))
theorem rD:∀ ws:List Str,PyData.depthAll (ws.map PyData.str)<=1
 | []=>by simp [PyData.depthAll]
 | w::ws=>by
   rw [List.map_cons];simp only [PyData.depthAll,PyData.depth];have:=rD ws;omega
theorem Pl.lay {w:Str} (h:Pl w):PyData.canLay0 (.str w)=true:=by
 simp only [PyData.canLay0,PyData.strOk];rw [Array.all_eq_true_iff_forall_mem];intro x hx;rw [decide_eq_true_eq];have:=(h x (by simpa using hx)).1;omega
theorem tG {K:PySem.W.Frag} {H:Hp} {l b:Addr} {ws:List Str} {Q:VK} (h:∀ w∈ws,Pl w) (ha:H l=some (.lst (ws.map V.str))) (hb:H b=some (.lst [])) (q:Q (.bl (decide (ws=[]))) H):yO K (.ref l) (.ref b) H Q:=by
 refine ⟨_,_,.lst (SqL.of ha) (uT ws fun w hw=>?_),.lst (SqL.of hb) .nil,?_,?_⟩
 . exact (h w hw).lay
 . have:=rD ws;simp only [PyData.depth];omega
 . have e:PyData.eqv (.list (ws.map PyData.str)) (.list [])=decide (ws=[]):=by
     cases ws <;> simp [PyData.eqv,PyData.eqvAll]
   rw [e];exact q
theorem AZ {α β:Type} {f:α->β}:∀ (l:List α) (i:Nat),(l.map f).eraseIdx i=(l.eraseIdx i).map f
 | [],_=>rfl
 | _::_,0=>rfl
 | x::l,i+1=>by
   show f x::(l.map f).eraseIdx i=f x::(l.eraseIdx i).map f;rw [AZ l i]
theorem wx {m:Nat}:∀ {ws:List Str},(∀ w∈ws,w.length<=m)->(ws.map (·.length)).sum<=m*ws.length
 | [],_=>by simp
 | w::ws,h=>by
   have h1:=h w (.head _);have h2:=wx (ws:=ws) fun x hx=>h x (.tail _ hx);rw [List.map_cons,List.sum_cons,List.length_cons,Nat.mul_succ];omega
theorem wc {m:Nat} {z:Str} {ws:List Str} (h:∀ w∈ws,w.length<=m):(Str.join z ws).length<=(m+z.length)*ws.length:=by
 rw [bq,cZ];have:=uF (s:=z.cps.toList) (m:=m) (l:=ws.map (·.cps.toList)) fun x hx=>by
   obtain ⟨w,hw,rfl⟩:=List.mem_map.mp hx;rw [<- bq];exact h w hw
 rw [List.length_map,<- bq] at this;exact this
theorem uR {r0:Str}:rf r0↔∃ ss:List (List Nat),Ste ss/\r0=stx ss:=by
 constructor
 . rintro ⟨ss,h⟩;obtain ⟨h1,h2⟩:=Ae h;exact ⟨ss,h2,h1⟩
 . rintro ⟨ss,h,rfl⟩;exact ⟨ss,vV h⟩
theorem DB {K:PySem.W.Frag} {H:Hp} {l b:Addr} {ws:List Str} {Q:VK} (h:∀ w∈ws,Pl w) (ha:H l=some (.lst (ws.map V.str))) (hb:H b=some (.lst [])) (q:Q (.bl (!decide (ws=[]))) H):EW K (.ref l) (.ref b) H Q:=by
 obtain ⟨d,e,h1,h2,h3,h4⟩:=tG (K:=K) (Q:=fun v H'=>Q (match v with|.bl b=>.bl (!b)|v=>v) H') h ha hb q;exact ⟨d,e,h1,h2,h3,h4⟩
theorem qM:∀ {a b:List Nat},a.map some=b.map some->a=b
 | [],[],_=>rfl
 | [],_::_,e=>by cases e
 | _::_,[],e=>by cases e
 | x::a,y::b,e=>by
   obtain ⟨h1,h2⟩:=List.cons.inj e;rw [Option.some.inj h1,qM h2]
theorem sA:∀ {ps:List Str} {ss ss':List (List Nat)},Paired fz ps ss->Paired fz ps ss'->ss=ss'
 | _,_,_,.nil,.nil=>rfl
 | _,_,_,.cons e h,.cons e' h'=>by rw [qM (e.1.symm.trans e'.1),sA h h']
theorem A8 {K:PySem.W.Frag} {H:Hp} {a b:Addr} {qs qs':List Addr} {ss:List (List Nat)} {Q:VK} (ha:H a=some (.lst (qs.map V.ref))) (pa:Paired (fun q ns=>H q=some (.tup (vNs ns))) qs ss) (hb:H b=some (.lst (qs'.map V.ref))) (pb:Paired (fun q ns=>H q=some (.tup (vNs ns))) qs' ss) (q:Q (.bl true) H):yO K (.ref a) (.ref b) H Q:=by
 have f:∀ {qs:List Addr},Paired (fun q ns=>H q=some (.tup (vNs ns))) qs ss->AG H qs (ss.map zNs):=fun h=>yj (fun q ns e=>by rw [<- Dc];exact e) h;refine ⟨_,_,.lst (SqL.of ha) (on (f pa)),.lst (SqL.of hb) (on (f pb)),?_,?_⟩
 . have:=rn (ss.map zNs);simp only [PyData.depth];omega
 . simp only [PyData.eqv];rw [wg];exact q
end Pb
set_option Elab.async false
set_option linter.all false
set_option maxRecDepth 100000
set_option maxHeartbeats 4000000
namespace Pk
open PySem L2 Pb
seal L2.PSs L2.PS L2.PE L2.PT L2.PW L2.PA L2.PG L2.PGs L2.PI L2.PTs L2.PC L2.PPs L2.PO
abbrev top (i:Nat):Stmt:=Hd.top i
local macro_rules|`(tactic| walk_at "rd") => `(tactic| ((try dsimp only [tYes, BX, zG, Dk, Ends.less, uU, xS, wd, zI, yi, CZ, BG, AH, uq, Bj, zz, BO, zq, Da, zn, Dp, Eh, EX, zJ, uI, Ag, Bm, C3, zx, tNext, tM, pF, EL, Dn, Eb, Bk, C1, Dj, C8, Fc, C7, Dl, EE, ipI, zw, yX, vA, tB, rR, tC, sR, tOp, tUn, rI0, rI, rU, rEq, rNe, vD, C2, C6, y7, tNil, B5, BK, tCB, tBM, CN, EZ, Cr, EU, Dq, tH, y3, Di, yZ, Ax, lV, AA, AI, BZ, tOr, BW, yV, B6, Dh, tIf, List.nil_append, List.append_nil, List.set_cons_zero, List.set_cons_succ, List.getElem?_cons_zero, List.getElem?_cons_succ]);(try simp only [tYes, BX, zG, Dk, Ends.less, uU, xS, wd, zI, yi, CZ, BG, AH, uq, Bj, zz, BO, zq, Da, zn, Dp, Eh, EX, zJ, uI, Ag, Bm, C3, zx, tNext, tM, pF, EL, Dn, Eb, Bk, C1, Dj, C8, Fc, C7, Dl, EE, ipI, zw, yX, vA, tB, rR, tC, sR, tOp, tUn, rI0, rI, rU, rEq, rNe, DQ, DA, DL, D8, DX, DE, vD, C2, C6, y7, tNil, B5, BK, tCB, tBM, CN, EZ, Cr, EU, Dq, tH, y3, Di, yZ, Ax, lV, AA, AI, BZ, tOr, BW, yV, B6, Dh, tIf, List.nil_append, List.append_nil, List.set_cons_zero, List.set_cons_succ, List.getElem?_cons_zero, List.getElem?_cons_succ, Option.some.injEq, V.int.injEq, V.bl.injEq, V.ref.injEq, List.cons.injEq, exists_eq_left, exists_eq_left', exists_and_left, exists_const, and_true, true_and, decide_eq_true_eq, Bool.not_eq_true', decide_eq_false_iff_not, Bool.true_eq_false, Bool.false_eq_true, if_true, if_false])))
set_option genSizeOf false in
set_option genInjectivity false in
structure Txt (K:PySem.W.Frag) (mg:Str->Option Value) where
 TollError:Addr
 pW:mg "TollError"=some (.ref TollError)
 BadWeb:Addr
 vK:mg "BadWeb"=some (.ref BadWeb)
 NoPlace:Addr
 ud:mg "NoPlace"=some (.ref NoPlace)
 BadLaying:Addr
 wY:mg "BadLaying"=some (.ref BadLaying)
 BadStep:Addr
 uz:mg "BadStep"=some (.ref BadStep)
 BadText:Addr
 iY:mg "BadText"=some (.ref BadText)
 Web:Addr
 FP:mg "Web"=some (.ref Web)
 xj:XTop K TollError
 mn:XErr K TollError BadWeb
 uH:XErr K TollError NoPlace
 pO:XErr K TollError BadLaying
 uh:XErr K TollError BadStep
 zN:XErr K TollError BadText
 xH:BaseIn K TollError
 An:XSet K BadText TollError "at"
 uw:PySem.W.findIn K (.ref BadText) "at"=some none
 ndx:[TollError,BadWeb,NoPlace,BadLaying,BadStep,BadText].Nodup
 range:mg "range"=none
 len:mg "len"=none
 isinstance:mg "isinstance"=none
 all:mg "all"=none
 int:mg "int"=none
 tuple:mg "tuple"=none
 list:mg "list"=none
 max:mg "max"=none
 str:mg "str"=none
 ValueError:mg "ValueError"=none
 c_MOST_PLACES:∃ t,mg "MOST_PLACES"=some (.int 24 t)
 c_LEAST_TOLL:∃ t,mg "LEAST_TOLL"=some (.int 2 t)
 c_MOST_TOLL:∃ t,mg "MOST_TOLL"=some (.int 1000000 t)
 c_FIGURES:∃ t,mg "FIGURES"=some (.str "0123456789" t)
 c_MOST_FIGURES:∃ t,mg "MOST_FIGURES"=some (.int 60 t)
 zX:Cls K Web
 n_many:NoAttr K Web "many"
 n_roads:NoAttr K Web "roads"
section
variable {P:Program} {w:World} {K:PySem.W.Frag} {mg:Str->Option Value} {base:Heap} {CX:CXT}
def kZ (T:Txt K mg):Sp:=fun vs H Q _=>∃ (m:Int) (t:Addr) (xs:List V),vs=[.int m,.ref t]/\SqT K H t xs/\1<=m/\m<=24/\(xs.length:Int)=m - 1/\Q .non H
abbrev aR:Stmt:=top 13
theorem q9:FnScope ["many","roads"] ["many","roads"] (aa aR):=FnScope.of (by kernel_rfl)
theorem gl:NmL (aa aR) "many":=.of (by kernel_rfl)
theorem lN:NmL (aa aR) "roads":=.of (by kernel_rfl)
theorem d5:NmG (aa aR) "MOST_PLACES":=.of (by kernel_rfl)
theorem xI:NmG (aa aR) "BadWeb":=.of (by kernel_rfl)
theorem eG:NmG (aa aR) "len":=.of (by kernel_rfl)
theorem q8 (T:Txt K mg) (hq:bG (CXe P w)) {f:Addr} {fd:FuncData} (D:Df K mg "check_counts" aR ["many","roads"] f fd):FnOk P w K mg base (CXe P w) 1 f fd ["many","roads"] (kZ T):=by
 refine D.F.okC q9 (fun vs H Q E h=>?_) (fun cdv A outer s H vs Q E hr h=>?_)
 . obtain ⟨m,t,xs,rfl,_⟩:=h
   rfl
 . obtain ⟨m,t,xs,rfl,ht,h1,h2,hl,k⟩:=h;refine ⟨_,(ah (ba (fi (nz jD jD ai (pvl 0 gl) (m5 d5.g T.c_MOST_PLACES (hd:=d5.d)))) (aj iC) aw) (aj (ba (aF nD (aP bU eG.g T.len cV (ae (pvl 1 lN) ag) (hn:=eG.n) (hdb:=eG.d)) (ax AM (pvl 0 gl) ai) (aH _)) (aj iC) aw))),?_⟩;rw [show L2.start ["many","roads"] [V.int m,V.ref t]=[some (V.int m),some (V.ref t)] from rfl];walk_at "rd";rw [if_pos h1,if_neg (by omega)];exact ⟨xs,.inr ht,by rw [if_neg (by omega)];exact k⟩
def pV (T:Txt K mg):Sp:=fun vs H Q _=>∃ m n:Int,vs=[.int m,.int n]/\Q (.bl (decide (0<=n) && decide (n<m))) H
abbrev cD:Stmt:=top 12
theorem xm:FnScope ["many","number"] ["many","number"] (aa cD):=FnScope.of (by kernel_rfl)
theorem qO:NmL (aa cD) "many":=.of (by kernel_rfl)
theorem ol:NmL (aa cD) "number":=.of (by kernel_rfl)
theorem xq (T:Txt K mg) (hq:bG (CXe P w)) {f:Addr} {fd:FuncData} (D:Df K mg "is_place" cD ["many","number"] f fd):FnOk P w K mg base (CXe P w) 1 f fd ["many","number"] (pV T):=by
 refine D.F.okC xm (fun vs H Q E h=>?_) (fun cdv A outer s H vs Q E hr h=>?_)
 . obtain ⟨m,n,rfl,_⟩:=h
   rfl
 . obtain ⟨m,n,rfl,k⟩:=h;refine ⟨_,(aj (a9 (B7 jD y6 ai (pvl 1 ol) (pvl 0 qO)))),?_⟩;rw [show L2.start ["many","number"] [V.int m,V.int n]=[some (V.int m),some (V.int n)] from rfl];walk_at "rd";by_cases c:0<=n
   . simpa [c] using k
   . simpa [c] using k
def nR (T:Txt K mg):Sp:=fun vs H Q _=>∃ (m:Int) (p:Addr) (r:Road),vs=[.int m,.ref p]/\H p=some (.tup (pE r))/\0<=r.a/\r.a<m/\0<=r.b/\r.b<m/\r.a≠r.b/\Q .non H
abbrev bu:Stmt:=top 14
theorem uX:FnScope ["many","road"] ["many","road"] (aa bu):=FnScope.of (by kernel_rfl)
theorem i9:NmL (aa bu) "many":=.of (by kernel_rfl)
theorem dA:NmL (aa bu) "road":=.of (by kernel_rfl)
theorem cC:NmG (aa bu) "is_place":=.of (by kernel_rfl)
theorem zA:NmG (aa bu) "BadWeb":=.of (by kernel_rfl)
theorem uY (T:Txt K mg) (hq:bG (CXe P w)) {f:Addr} {fd:FuncData} (D:Df K mg "check_ends" bu ["many","road"] f fd) {ej:Addr} {pR:FuncData} (cX:Df K mg "is_place" cD ["many","number"] ej pR) (G_is_place:FnOk P w K mg base (CXe P w) 1 ej pR ["many","number"] (pV T)):FnOk P w K mg base (CXe P w) 2 f fd ["many","road"] (nR T):=by
 refine D.F.okC uX (fun vs H Q E h=>?_) (fun cdv A outer s H vs Q E hr h=>?_)
 . obtain ⟨m,p,r,rfl,_⟩:=h
   rfl
 . obtain ⟨m,p,r,rfl,hp,a0,a1,b0,b1,ne,k⟩:=h;refine ⟨_,(ah (ba (PW.pt (r9 (fi (fQ (bC G_is_place (hr.mono (by decide)) cC.g cX.m cX.F.kp cX.b .nil (dj hq) (ae (pvl 0 i9) (ae (bH fK (pvl 1 dA) ai (fun _ _=>rfl)) ag)) (hdb:=cC.d)))) (oN (fi (fQ (bC G_is_place (hr.mono (by decide)) cC.g cX.m cX.F.kp cX.b .nil (dj hq) (ae (pvl 0 i9) (ae (bH fK (pvl 1 dA) ai (fun _ _=>rfl)) ag)) (hdb:=cC.d))))))) (aj iC) aw) (aj (ba (aF cQ (bH fK (pvl 1 dA) ai (fun _ _=>rfl)) (bH fK (pvl 1 dA) ai (fun _ _=>rfl)) (aH _)) (aj iC) aw))),?_⟩;rw [show L2.start ["many","road"] [V.int m,V.ref p]=[some (V.int m),some (V.ref p)] from rfl];walk_at "rd";refine ixT hp rfl ⟨m,r.a,rfl,_,rfl,?_⟩;rw [if_neg (by simp [a0,a1])];refine ixT hp rfl ⟨m,r.b,rfl,_,rfl,?_⟩;rw [if_neg (by simp [b0,b1])];refine ixT hp rfl (ixT hp rfl ⟨rfl,?_⟩);rw [if_neg (by simpa using ne)];exact k
def nL (T:Txt K mg):Sp:=fun vs H Q _=>∃ (t:Addr) (ps:List Addr) (rs:List Road) (n:Int),vs=[.ref t,.int n]/\SqT K H t (ps.map V.ref)/\RoadsAt H ps rs/\rs.length<=1000 /\
 ∀ l H',H l=none->Same H H'->H' l=some (.lst ((cR rs n).map V.int))->Q (.ref l) H'
abbrev bx:Stmt:=top 17
theorem jk:FnScope ["roads","place","ends","road"] ["roads","place"] (aa bx):=FnScope.of (by kernel_rfl)
theorem nU:NmL (aa bx) "roads":=.of (by kernel_rfl)
theorem gP:NmL (aa bx) "place":=.of (by kernel_rfl)
theorem dE:NmL (aa bx) "ends":=.of (by kernel_rfl)
theorem cK:NmL (aa bx) "road":=.of (by kernel_rfl)
theorem vw (T:Txt K mg) (hq:bG (CXe P w)) {f:Addr} {fd:FuncData} (D:Df K mg "other_ends" bx ["roads","place"] f fd):FnOk P w K mg base (CXe P w) 1 f fd ["roads","place"] (nL T):=by
 refine D.F.okC jk (fun vs H Q E h=>?_) (fun cdv A outer s H vs Q E hr h=>?_)
 . obtain ⟨t,ps,rs,n,rfl,_⟩:=h
   rfl
 . obtain ⟨t,ps,rs,n,rfl,ht,hp,hl,k⟩:=h;refine ⟨_,(ah (aI (i:=2) jk.nd rfl (Or.inl dE.l) (bf ag)) (ah (gr PassesOwn.never rfl (rY (pvl 0 nU)) (cj (i:=3) jk.nd rfl (Or.inl cK.l)) (ah (ba (aF cQ (bH fK (pvl 3 cK) ai (fun _ _=>rfl)) (pvl 1 gP) (aH _)) (aj (cz (dl PySem.F.plainAttrs_list PySem.F.slot_list_append PySem.F.type_list_append c7 (pvl 2 dE) (ae (bH fK (pvl 3 cK) ai (fun _ _=>rfl)) ag)))) aw) (aj (ba (aF cQ (bH fK (pvl 3 cK) ai (fun _ _=>rfl)) (pvl 1 gP) (aH _)) (aj (cz (dl PySem.F.plainAttrs_list PySem.F.slot_list_append PySem.F.type_list_append c7 (pvl 2 dE) (ae (bH fK (pvl 3 cK) ai (fun _ _=>rfl)) ag)))) aw)))) (aj (a9 (pvl 2 dE))))),?_⟩;rw [show L2.start ["roads","place","ends","road"] [V.ref t,V.int n]=[some (V.ref t),some (V.int n),none,none] from rfl];walk_at "rd";refine ⟨by decide,fun l hn=>?_⟩;have hlen:ps.length=rs.length:=Paired.length hp;refine ⟨⟨_,Same.tup (Same.new _ hn) ht⟩,tJ (xs:=ps.map V.ref) (fun i σ H2=>H2=upd H l (.lst ((cR (rs.take i) n).map V.int))/\∃ v,σ=[some (.ref t),some (.int n),some (.ref l),v]) ⟨rfl,_,rfl⟩ (fun i σ H2 _ z=>by rw [z.1];exact Same.tup (Same.new _ hn) ht) ?_ ?_⟩
   . rintro i x σ H2 hi ⟨rfl,v,rfl⟩;obtain ⟨p,r,rfl,h1,h2,h3⟩:=hp.get hi;have np:p≠l:=au h3 hn;have hil:i<rs.length:=(List.getElem?_eq_some_iff.mp h2).1;have et:rs.take (i+1)=rs.take i++[r]:=(by rw [List.take_succ,h2];rfl);have hb:(cR (rs.take i) n).length<=2000:=Nat.le_trans (Bz _ _) (by rw [List.length_take];omega);have hx:∀ o,upd H l o p=some (.tup (pE r)):=fun o=>by rw [am np];exact h3
     walk_at "rd";refine ixT (hx _) rfl ?_;walk_at "rd";have fin:∀ (ys:List Int),(cR (rs.take i) n++ys)=cR (rs.take (i+1)) n->upd H l (.lst ((cR (rs.take i) n).map V.int++ys.map V.int))=upd H l (.lst ((cR (rs.take (i+1)) n).map V.int)):=fun ys e=>by
       rw [<- List.map_append,e]
     have e1:pD n r=(if r.a=n then [r.b] else [])++(if r.b=n then [r.a] else []):=rfl;by_cases ca:r.a=n
     . rw [if_pos ca];refine ⟨tyL af,ixT (hx _) rfl (qf af (small (by rw [List.length_map];omega)) ?_)⟩;rw [jI];refine ixT (hx _) rfl ?_;walk_at "rd";by_cases cb:r.b=n
       . rw [if_pos cb];refine ⟨tyL af,ixT (hx _) rfl (qf af (small (by rw [List.length_append,List.length_map];simp;omega)) ?_)⟩;rw [jI,List.append_assoc];exact ⟨fin [r.b,r.a] (by rw [et,kL,e1,if_pos ca,if_pos cb];rfl),_,rfl⟩
       . rw [if_neg cb];exact ⟨fin [r.b] (by rw [et,kL,e1,if_pos ca,if_neg cb];rfl),_,rfl⟩
     . rw [if_neg ca];refine ixT (hx _) rfl ?_;walk_at "rd";by_cases cb:r.b=n
       . rw [if_pos cb];refine ⟨tyL af,ixT (hx _) rfl (qf af (small (by rw [List.length_map];omega)) ?_)⟩;rw [jI];exact ⟨fin [r.a] (by rw [et,kL,e1,if_neg ca,if_pos cb];rfl),_,rfl⟩
       . rw [if_neg cb];have:=fin [] (by rw [et,kL,e1,if_neg ca,if_neg cb];rfl);rw [List.map_nil,List.append_nil] at this;exact ⟨this,_,rfl⟩
   . rintro σ H2 ⟨rfl,v,rfl⟩;rw [List.length_map,hlen,List.take_length];exact ⟨_,rfl,k l _ hn (Same.new _ hn) af⟩
def fu (ks:List Int):List (Key × V):=ks.map fun k=>((Sum.inl k:Key),V.bl true)
theorem uN (ks:List Int):(fu ks).length=ks.length:=by unfold fu;rw [List.length_map]
theorem vR (ks:List Int) (e:Int):h9 (fu ks) (Sum.inl e:Key)=if e∈ks then some (V.bl true) else none:=by
 unfold fu
 induction ks with
 | nil=>rfl
 | cons k ks ih =>
   rw [List.map_cons];by_cases c:k=e
   . rw [mw (by rw [c]),if_pos (by rw [c];exact List.mem_cons_self)]
   . rw [me (fun z=>c (Sum.inl.inj z)),ih];by_cases d:e∈ks
     . rw [if_pos d,if_pos (List.mem_cons_of_mem _ d)]
     . rw [if_neg d,if_neg (fun z=>by rcases List.mem_cons.mp z with z|z;exact c z.symm;exact d z)]
theorem Bl {ks:List Int} {e:Int} (h:e ∉ ks):eK (fu ks) (Sum.inl e:Key) (V.bl true)=fu (ks++[e]):=by
 rw [Bt _ (by rw [vR,if_neg h])];unfold fu;rw [List.map_append]
 rfl
def kT (T:Txt K mg):Sp:=fun vs H Q _=>∃ (m:Int) (t:Addr) (ps:List Addr) (rs:List Road),vs=[.int m,.ref t]/\SqT K H t (ps.map V.ref)/\RoadsAt H ps rs/\Good m rs/\∀ H',Same H H'->Q .non H'
abbrev az:Stmt:=top 16
theorem dz:FnScope ["many","roads","reached","waiting","place","end"] ["many","roads"] (aa az):=FnScope.of (by kernel_rfl)
theorem ni:NmL (aa az) "many":=.of (by kernel_rfl)
theorem lS:NmL (aa az) "roads":=.of (by kernel_rfl)
theorem ck:NmL (aa az) "reached":=.of (by kernel_rfl)
theorem cm:NmL (aa az) "waiting":=.of (by kernel_rfl)
theorem gc:NmL (aa az) "place":=.of (by kernel_rfl)
theorem di:NmL (aa az) "end":=.of (by kernel_rfl)
theorem eA:NmG (aa az) "other_ends":=.of (by kernel_rfl)
theorem eF:NmG (aa az) "len":=.of (by kernel_rfl)
theorem xx:NmG (aa az) "BadWeb":=.of (by kernel_rfl)
theorem sv (T:Txt K mg) (hq:bG (CXe P w)) {f:Addr} {fd:FuncData} (D:Df K mg "check_joined" az ["many","roads"] f fd) {df:Addr} {nI:FuncData} (dP:Df K mg "other_ends" bx ["roads","place"] df nI) (G_other_ends:FnOk P w K mg base (CXe P w) 1 df nI ["roads","place"] (nL T)):FnOk P w K mg base (CXe P w) 2 f fd ["many","roads"] (kT T):=by
 refine D.F.okC dz (fun vs H Q E h=>?_) (fun cdv A outer s H vs Q E hr h=>?_)
 . obtain ⟨m,t,ps,rs,rfl,_⟩:=h
   rfl
 . obtain ⟨m,t,ps,rs,rfl,ht,hp,g,k⟩:=h;have hu:=Fv hr;refine ⟨_,(ah (aI (i:=2) dz.nd rfl (Or.inl ck.l) (DS (CD ai pC DR) rfl rfl (List.cons_ne_nil _ _) (by decide))) (ah (aI (i:=3) dz.nd rfl (Or.inl cm.l) (bf (ae ai ag))) (ah (CW PassesOwn.never (wn (pvl 3 cm) (fun _=>rfl)) (ah (aI (i:=4) dz.nd rfl (Or.inl gc.l) (EV PySem.F.plainAttrs_list PySem.F.slot_list_pop PySem.F.type_list_pop Ez (pvl 3 cm))) (aj (gr PassesOwn.never rfl (gg (bC G_other_ends (hr.mono (by decide)) eA.g dP.m dP.F.kp dP.b .nil (dj hq) (ae (pvl 1 lS) (ae (pvl 4 gc) ag)) (hdb:=eA.d))) (cj (i:=5) dz.nd rfl (Or.inl di.l)) (aj (ba (wG (Aw hu (pvl 5 di) (pvl 2 ck))) (ah (DV hu (pvl 2 ck) (pvl 5 di) pC rfl) (aj (cz (dl PySem.F.plainAttrs_list PySem.F.slot_list_append PySem.F.type_list_append c7 (pvl 3 cm) (ae (pvl 5 di) ag))))) aw)))))) (aj (ba (aF nD (aP AY eF.g T.len cV (ae (pvl 2 ck) ag) (hn:=eF.n) (hdb:=eF.d)) (pvl 0 ni) (aH _)) (aj iC) aw))))),?_⟩;rw [show L2.start ["many","roads","reached","waiting","place","end"] [V.int m,V.ref t]=[some (V.int m),some (V.ref t),none,none,none,none] from rfl];have m1:=g.m1;have m24:=g.m24;have glen:=g.len;walk_at "rd";intro d hd;refine ⟨af,[(Sum.inl 0,.bl true)],rfl,by decide,?_⟩;rw [jI];refine ⟨by decide,fun w0 hw=>?_⟩;have ed:lR [] [((Sum.inl 0:Key),V.bl true)]=fu [0]:=rfl;rw [ed];have ndw:w0≠d:=fun z=>by rw [z,af] at hw;cases hw
   have hw0:H w0=none:=by rw [am ndw] at hw;exact hw
   refine D2 (fun n σ H2=>∃ (ks ws:List Int) (v4 v5:Option V),n=2*(m.toNat - ks.length)+ws.length/\σ=[some (.int m),some (.ref t),some (.ref d),some (.ref w0),v4,v5]/\Same H H2/\H2 d=some (.dK (fu ks))/\H2 w0=some (.lst (ws.map V.int))/\JInv m rs ks ws) _ ⟨[0],[0],none,none,rfl,rfl,?_,?_,af,JInv.start m1⟩ ?_
   . exact Same.trans (Same.new _ hd) (Same.new _ hw)
   . rw [am ndw.symm,af]
   rintro n σ H2 NW hN hN2 ⟨ks,ws,v4,v5,rfl,rfl,sm,h1,h2,J⟩;have kl:=kJ (by omega) J.nd J.rng;refine ⟨_,rfl,!(ws.map V.int).isEmpty,.inl ⟨_,SqL.of h2,rfl⟩,?_⟩;rcases List.eq_nil_or_concat ws with rfl|⟨ws',p,rfl⟩
   . -- nothing waits: all places have been reached
     have full:=J.all m1 g.jn;refine FD ?_;walk_at "rd";refine ⟨fu ks,h1,?_⟩;rw [uN,if_neg (by omega)];exact k _ sm
   . rw [List.concat_eq_append] at J h2 hN hN2 ⊢;have e1:(!(List.map V.int (ws'++[p])).isEmpty)=true:=(by simp);rw [e1];refine FM ⟨NW,hN2,?_⟩;walk_at "rd";rw [List.map_append,List.map_cons,List.map_nil] at h2;refine ⟨tyL h2,Fw h2 ?_⟩;have ndw':d≠w0:=ndw.symm;have sm2:Same H (upd H2 w0 (.lst (ws'.map V.int))):=fun b o e=>by rw [am (au e hw0)];exact sm b o e
     refine ⟨t,ps,rs,p,rfl,Same.tup sm2 ht,RoadsAt.same sm2 hp,by omega,fun l H3 hn s3 hl=>?_⟩;have nlw:w0≠l:=au (o:=.lst (ws'.map V.int)) af hn;have nld:d≠l:=au (o:=.dK (fu ks)) (by rw [am ndw'];exact h1) hn;have hl0:H l=none:=sm2.free hn;refine ⟨l,rfl,⟨_,SqL.of hl⟩,uO (K:=K) (xs:=(cR rs p).map V.int) (fun i σ H4=>∃ (v5:Option V),σ=[some (.int m),some (.ref t),some (.ref d),some (.ref w0),some (.int p),v5]/\Same H H4/\H4 l=some (.lst ((cR rs p).map V.int)) /\
       ∃ ks4 ws4:List Int,H4 d=some (.dK (fu ks4))/\H4 w0=some (.lst (ws4.map V.int))/\JMid m rs p ((cR rs p).take i) ks4 ws4 ks ws'.length) ?_ (fun i σ H4 _ z=>by obtain ⟨_,_,_,z,_⟩:=z;exact SqL.of z) ?_ ?_⟩
     . refine ⟨_,rfl,sm2.trans s3,hl,ks,ws',?_,?_,?_⟩
       . exact s3 _ _ (by rw [am ndw'];exact h1)
       . exact s3 _ _ af
       . rw [List.take_zero];exact JMid.start J
     . rintro i x σ H4 NI hI hi ⟨v5,rfl,s4,hl4,ks4,ws4,hd4,hw4,M⟩;rw [List.getElem?_map] at hi;obtain ⟨e,he,rfl⟩:∃ e,(cR rs p)[i]?=some e/\V.int e=x:=by
         cases q:(cR rs p)[i]? with
         | none=>rw [q] at hi;cases hi
         | some e=>rw [q] at hi;exact ⟨e,rfl,Option.some.inj hi⟩
       have er:=Ct g.ok (List.mem_of_getElem? he);have et:(cR rs p).take (i+1)=(cR rs p).take i++[e]:=(by rw [List.take_succ,he];rfl);have st:=M.step er.1 er.2;have k4:=kJ (by omega) M.nd M.rng;have mu4:=M.mu;walk_at "rd";refine ⟨_,DGet.k (k:=Sum.inl e) hd4,?_⟩;rw [vR];by_cases c:e∈ks4
       . rw [if_pos c];rw [if_neg (by simp)];refine hI _ _ ⟨_,rfl,s4,hl4,ks4,ws4,hd4,hw4,?_⟩;rw [et];unfold rS at st;rw [if_pos c] at st;exact st
       . rw [if_neg c];rw [if_pos (by simp)];refine ⟨_,DPut.k (k:=Sum.inl e) hd4 (small (by rw [uN];omega)),?_⟩;rw [Bl c];have hw5:upd H4 d (.dK (fu (ks4++[e]))) w0=some (.lst (ws4.map V.int)):=(by rw [am ndw];exact hw4);refine ⟨tyL hw5,qf hw5 (small (by rw [List.length_map];have:=M.wl;omega)) ?_⟩;have hmid:=M.mu;refine hI _ _ ⟨_,rfl,fun b o z=>?_,?_,ks4++[e],ws4++[e],?_,?_,?_⟩
         . rw [am (au z hw0),am (au z hd)];exact s4 b o z
         . rw [am nlw.symm,am nld.symm];exact hl4
         . rw [am ndw',af]
         . rw [af,List.map_append];rfl
         . rw [et];unfold rS at st;rw [if_neg c] at st;exact st
     . rintro σ H4 ⟨v5,rfl,s4,hl4,ks4,ws4,hd4,hw4,M⟩;rw [List.length_map,List.take_length] at M;have k4:=kJ (by omega) M.nd M.rng;have mu4:=M.mu;have up4:=M.up;refine hN _ _ _ ?_ ⟨ks4,ws4,some (.int p),v5,rfl,rfl,s4,hd4,hw4,M.done⟩;rw [List.length_append];simp only [List.length_cons,List.length_nil];omega
def l5 (T:Txt K mg):Sp:=fun vs H Q _=>∃ (p:Addr) (r:Road),vs=[.ref p]/\H p=some (.tup (pE r))/\2<=r.t/\r.t<=1000000/\2<=r.u/\r.u<=1000000/\∀ H',Same H H'->Q .non H'
abbrev bd:Stmt:=top 15
theorem lL:FnScope ["road","number"] ["road"] (aa bd):=FnScope.of (by kernel_rfl)
theorem gS:NmL (aa bd) "road":=.of (by kernel_rfl)
theorem gb:NmL (aa bd) "number":=.of (by kernel_rfl)
theorem eS:NmG (aa bd) "LEAST_TOLL":=.of (by kernel_rfl)
theorem eV:NmG (aa bd) "MOST_TOLL":=.of (by kernel_rfl)
theorem xP:NmG (aa bd) "BadWeb":=.of (by kernel_rfl)
theorem t7 (T:Txt K mg) (hq:bG (CXe P w)) {f:Addr} {fd:FuncData} (D:Df K mg "check_tolls" bd ["road"] f fd):FnOk P w K mg base (CXe P w) 1 f fd ["road"] (l5 T):=by
 refine D.F.okC lL (fun vs H Q E h=>?_) (fun cdv A outer s H vs Q E hr h=>?_)
 . obtain ⟨p,r,rfl,_⟩:=h
   rfl
 . obtain ⟨p,r,rfl,hp,t0,t1,u0,u1,k⟩:=h;refine ⟨_,(aj (gr PassesOwn.never rfl (rY (qU (ae (bH fK (pvl 0 gS) ai (fun _ _=>rfl)) (ae (bH fK (pvl 0 gS) ai (fun _ _=>rfl)) ag)))) (cj (i:=1) lL.nd rfl (Or.inl gb.l)) (aj (ba (fi (nz jD jD (m5 eS.g T.c_LEAST_TOLL (hd:=eS.d)) (pvl 1 gb) (m5 eV.g T.c_MOST_TOLL (hd:=eV.d)))) (aj iC) aw)))),?_⟩;rw [show L2.start ["road","number"] [V.ref p]=[some (V.ref p),none] from rfl];walk_at "rd";refine ixT hp rfl (ixT hp rfl ⟨ap (by simp),fun q hn=>?_⟩);have e1:upd H q (.tup [.int r.t,.int r.u]) q=some (.tup [.int r.t,.int r.u]):=af;refine ⟨⟨_,SqT.of e1⟩,tJ (K:=K) (xs:=[.int r.t,.int r.u]) (fun i σ H2=>H2=upd H q (.tup [.int r.t,.int r.u])/\∃ v,σ=[some (.ref p),v]) ⟨rfl,_,rfl⟩ (fun i σ H2 _ z=>by rw [z.1];exact SqT.of e1) ?_ ?_⟩
   . rintro i x σ H2 hi ⟨rfl,v,rfl⟩;have hx:∃ n:Int,x=.int n/\2<=n/\n<=1000000:=by
       match i,hi with
       | 0,hi=>exact ⟨r.t,by simpa using hi.symm,t0,t1⟩
       | 1,hi=>exact ⟨r.u,by simpa using hi.symm,u0,u1⟩
     obtain ⟨n,rfl,n0,n1⟩:=hx;walk_at "rd";rw [if_pos n0,if_neg (by omega)];exact ⟨_,rfl⟩
   . rintro σ H2 ⟨rfl,v,rfl⟩;exact k _ (Same.new _ hn)
/-- the attributes of a web -/
def rT (m:Int) (t:Addr):List (Str × V):=eM "roads" (.ref t) (eM "many" (.int m) [])
theorem Fi:¬ (("many":Str)="roads"):=by decide +kernel
theorem Fn (m:Int) (t:Addr):(rT m t).lookup ("many":Str)=some (.int m):=by
 unfold rT;rw [fP,if_neg Fi,fP,if_pos rfl]
theorem Ff (m:Int) (t:Addr):(rT m t).lookup ("roads":Str)=some (.ref t):=by
 unfold rT;rw [fP,if_pos rfl]
/-- a web of m places and the roads rs stands at p,its tuple at t,the roads' tuples at ps -/
structure WebAt (C:Addr) (H:Hp) (p:Addr) (m:Int) (t:Addr) (ps:List Addr) (rs:List Road):Prop where
 ob:∃ dx,H p=some (.ins C dx (rT m t))
 tu:H t=some (.tup (ps.map V.ref))
 ro:RoadsAt H ps rs
 go:Good m rs
theorem WebAt.same {C:Addr} {H H':Hp} {p:Addr} {m:Int} {t:Addr} {ps:List Addr} {rs:List Road} (e:Same H H') (h:WebAt C H p m t ps rs):WebAt C H' p m t ps rs :=
 ⟨let ⟨dx,q⟩:=h.ob;⟨dx,e _ _ q⟩,e _ _ h.tu,RoadsAt.same e h.ro,h.go⟩
def gu (T:Txt K mg):Sp:=fun vs H Q _=>∃ (p dx:Addr) (m:Int) (c:Bool) (a:Addr) (ps:List Addr) (rs:List Road),vs=[.ref p,.int m,.ref a]/\H p=some (.ins T.Web dx [])/\SqX K c H a (ps.map V.ref)/\RoadsAt H ps rs/\Good m rs /\
 ∀ t H',H t=none->WebAt T.Web H' p m t ps rs->(∀ b o,H b=some o->b≠p->H' b=some o)->Q .non H'
abbrev ay:Stmt:=xU (top 11) 0
theorem gA:FnScope ["self","many","roads","kept","road"] ["self","many","roads"] (aa ay):=FnScope.of (by kernel_rfl)
theorem gi:NmL (aa ay) "self":=.of (by kernel_rfl)
theorem cY:NmL (aa ay) "many":=.of (by kernel_rfl)
theorem lC:NmL (aa ay) "roads":=.of (by kernel_rfl)
theorem b7:NmL (aa ay) "kept":=.of (by kernel_rfl)
theorem eg:NmL (aa ay) "road":=.of (by kernel_rfl)
theorem dY:NmG (aa ay) "tuple":=.of (by kernel_rfl)
theorem dS:NmG (aa ay) "check_counts":=.of (by kernel_rfl)
theorem eu:NmG (aa ay) "check_ends":=.of (by kernel_rfl)
theorem d6:NmG (aa ay) "check_tolls":=.of (by kernel_rfl)
theorem dX:NmG (aa ay) "check_joined":=.of (by kernel_rfl)
theorem rm (T:Txt K mg) (hq:bG (CXe P w)) {f:Addr} {fd:FuncData} (F:Fun K "__init__" "Web.__init__" ay f fd) {cB:Addr} {kN:FuncData} (c9:Df K mg "check_counts" aR ["many","roads"] cB kN) (G_check_counts:FnOk P w K mg base (CXe P w) 1 cB kN ["many","roads"] (kZ T)) {dc:Addr} {nK:FuncData} (dU:Df K mg "check_ends" bu ["many","road"] dc nK) (G_check_ends:FnOk P w K mg base (CXe P w) 2 dc nK ["many","road"] (nR T)) {cw:Addr} {kI:FuncData} (c8:Df K mg "check_joined" az ["many","roads"] cw kI) (G_check_joined:FnOk P w K mg base (CXe P w) 2 cw kI ["many","roads"] (kT T)) {cU:Addr} {lJ:FuncData} (dw:Df K mg "check_tolls" bd ["road"] cU lJ) (G_check_tolls:FnOk P w K mg base (CXe P w) 1 cU lJ ["road"] (l5 T)):FnOk P w K mg base (CXe P w) 3 f fd ["self","many","roads"] (gu T):=by
 refine F.okC gA (fun vs H Q E h=>?_) (fun cdv A outer s H vs Q E hr h=>?_)
 . obtain ⟨p,dx,m,c,a,ps,rs,rfl,_⟩:=h
   rfl
 . obtain ⟨p,dx,m,c,a,ps,rs,rfl,hp,ha,hro,g,k⟩:=h;refine ⟨_,(ah (aI (i:=3) gA.nd rfl (Or.inl b7.l) (f7 nH dY.g T.tuple qQ (ae (xN rfl (g6 (Nc:=["road"]) 1 (by decide +kernel) (by decide +kernel) rfl (by decide +kernel) rfl) (ER c (pvl 2 lC)) (fun _ _ _ _=>(cj (i:=0) (show (["road"]:List Str).Nodup from by decide +kernel) rfl (Or.inl rfl))) (fun _ _ _ _=>hV) (fun _ _ _ _=>(f7 (lP K rfl) (by rfl) T.tuple qQ (ae (pv 0) ag)))) ag) (hn:=dY.n) (hdb:=dY.d))) (ah (cz (bC G_check_counts (hr.mono (by decide)) dS.g c9.m c9.F.kp c9.b .nil (dj hq) (ae (pvl 1 cY) (ae (pvl 3 b7) ag)) (hdb:=dS.d))) (ah (gr PassesOwn.never rfl (rY (pvl 3 b7)) (cj (i:=4) gA.nd rfl (Or.inl eg.l)) (ah (cz (bC G_check_ends (hr.mono (by decide)) eu.g dU.m dU.F.kp dU.b .nil (dj hq) (ae (pvl 1 cY) (ae (pvl 4 eg) ag)) (hdb:=eu.d))) (aj (cz (bC G_check_tolls (hr.mono (by decide)) d6.g dw.m dw.F.kp dw.b .nil (dj hq) (ae (pvl 4 eg) ag) (hdb:=d6.d)))))) (ah (cz (bC G_check_joined (hr.mono (by decide)) dX.g c8.m c8.F.kp c8.b .nil (dj hq) (ae (pvl 1 cY) (ae (pvl 3 b7) ag)) (hdb:=dX.d))) (ah (zY (pvl 0 gi) (pvl 1 cY) rfl) (aj (zY (pvl 0 gi) (pvl 3 b7) rfl))))))),?_⟩;rw [show L2.start ["self","many","roads","kept","road"] [V.ref p,V.int m,V.ref a]=[some (V.ref p),some (V.int m),some (V.ref a),none,none] from rfl];walk_at "rd";refine ⟨⟨_,ha⟩,fun l hl=>?_⟩;have hlen:ps.length=rs.length:=Paired.length hro;have glen:=g.len;have m24:=g.m24;have hl1:Same H (upd H l (.lst [])):=Same.new _ hl;refine iE (K:=K) (xs:=ps.map V.ref) (fun i ys σ H2=>H2=upd H l (.lst ((ps.take i).map V.ref))/\ys=(ps.take i).map V.ref/\∃ v,σ=[v]) ⟨rfl,rfl,_,rfl⟩ (fun i ys σ H2 _ ⟨z,_⟩=>by rw [z];exact Same.sqX (Same.new _ hl) ha) ?_ ?_
   . rintro i x ys σ H2 N hN hi ⟨rfl,rfl,v,rfl⟩;obtain ⟨q,r,rfl,h1,h2,h3⟩:=hro.get hi;have nq:q≠l:=au h3 hl;have hil:i<ps.length:=(List.getElem?_eq_some_iff.mp h1).1;have et:ps.take (i+1)=ps.take i++[q]:=(by rw [List.take_succ,h1];rfl);walk_at "rd";refine ⟨pE r,.inr ⟨SqT.of (by rw [am nq];exact h3),af,small (by rw [List.length_map,List.length_take];omega),hN _ _ _ ⟨?_,?_,_,rfl⟩⟩⟩
     . rw [jI,et,List.map_append];rfl
     . rw [et,List.map_append];rfl
   . rintro ys σ H2 ⟨rfl,rfl,v,rfl⟩;rw [List.length_map,List.take_length];refine ⟨l,rfl,ps.map V.ref,.inl ⟨SqL.of af,fun t ht=>?_⟩⟩;have s1:Same H (upd H l (.lst (ps.map V.ref))):=Same.new _ hl;have s2:Same (upd H l (.lst (ps.map V.ref))) (upd (upd H l (.lst (ps.map V.ref))) t (.tup (ps.map V.ref))):=Same.new _ ht;have ht0:H t=none:=s1.free ht;have ht1:∀ {H':Hp},Same (upd (upd H l (.lst (ps.map V.ref))) t (.tup (ps.map V.ref))) H'->H' t=some (.tup (ps.map V.ref)):=fun e=>e _ _ af;refine ⟨m,t,ps.map V.ref,rfl,SqT.of af,g.m1,g.m24,by rw [List.length_map];omega,⟨_,SqT.of af⟩,?_⟩;refine Bg (K:=K) (xs:=ps.map V.ref) (fun i σ H3=>Same (upd (upd H l (.lst (ps.map V.ref))) t (.tup (ps.map V.ref))) H3/\∃ v,σ=[some (.ref p),some (.int m),some (.ref a),some (.ref t),v]) ⟨Same.refl _,_,rfl⟩ (fun i σ H3 _ ⟨z,_⟩=>SqT.of (ht1 z)) ?_ ?_
     . rintro i x σ H3 N hN hi ⟨s3,v,rfl⟩;have s03:=s1.trans (s2.trans s3);obtain ⟨q,r,rfl,h1,h2,h3⟩:=hro.get hi;have ok:=g.ok r (List.mem_of_getElem? h2);walk_at "rd";refine ⟨m,q,r,rfl,s03 _ _ h3,ok.a0,ok.a1,ok.b0,ok.b1,ok.ne,?_⟩;exact ⟨q,r,rfl,s03 _ _ h3,ok.t0,ok.t1,ok.u0,ok.u1,fun H4 s4=>hN _ _ ⟨s3.trans s4,_,rfl⟩⟩
     . rintro σ H3 ⟨s3,v,rfl⟩;have s03:=s1.trans (s2.trans s3);walk_at "rd";refine ⟨m,t,ps,rs,rfl,SqT.of (ht1 s3),RoadsAt.same s03 hro,g,fun H4 s4=>?_⟩;have s04:=s03.trans s4;have ntp:t≠p:=fun z=>by rw [z,hp] at ht0;cases ht0
       refine ⟨T.Web,dx,[],s04 _ _ hp,T.zX,T.n_many,by decide,?_⟩;refine ⟨T.Web,dx,_,af,T.zX,T.n_roads,by show 1<1000;decide,?_⟩;rw [jI];refine k t _ ht0 ⟨⟨dx,af⟩,?_,?_,g⟩ fun b o hb nb=>?_
       . rw [am ntp];exact ht1 (s3.trans s4)
       . refine Paired.imp' (fun q r hq=>?_) hro;rw [am (zo hq hp (by intro z;cases z))];exact s04 _ _ hq
       . rw [am nb];exact s04 _ _ hb
/-- Web(m,roads),at a call: nothing is changed,a new web stands -/
theorem FO (T:Txt K mg) {H:Hp} {m:Int} {c:Bool} {a:Addr} {ps:List Addr} {rs:List Road} {Q:Addr->Hp->Prop} (ha:SqX K c H a (ps.map V.ref)) (ro:RoadsAt H ps rs) (g:Good m rs)
   (k:∀ x t H',H x=none->H t=none->Same H H'->WebAt T.Web H' x m t ps rs->Q x H') :
   ∀ x dx,H x=none->H dx=none->dx≠x->gu T [.ref x,.int m,.ref a] (upd (upd H dx (.own x)) x (.ins T.Web dx [])) (fun v H2=>v=.non/\Q x H2) E0:=by
 intro x dx hx hdx ne;have hx1:upd H dx (.own x) x=none:=by rw [am ne.symm];exact hx
 have s0:Same H (upd (upd H dx (.own x)) x (.ins T.Web dx [])):=(Same.new _ hdx).trans (Same.new _ hx1);exact ⟨x,dx,m,c,a,ps,rs,rfl,af,Same.sqX s0 ha,RoadsAt.same s0 ro,g,fun t H' ht W kp=>⟨rfl,k x t H' hx (s0.free ht) (fun b o e=>kp b o (s0 b o e) (au e hx)) W⟩⟩
def OW (w w':Str):Prop:=Pl w'/\w'.length<=2*w.length+62
theorem tN {w w':Str} (h:Pl w') (l:w'.length<=62):OW w w':=⟨h,by omega⟩
def kW (T:Txt K mg):Sp:=fun vs H Q _=>∃ (c:Int) (w:Str),vs=[.int c,.str w]/\Pl w/\w.length<=10000/\∀ w' H',Same H H'->Pl w'->w'.length<=2*w.length+62->Q (.str w') H'
abbrev aG:Stmt:=top 32
theorem cL:FnScope ["cell","word","at","signs","sign","some"] ["cell","word"] (aa aG):=FnScope.of (by kernel_rfl)
theorem d9:NmL (aa aG) "cell":=.of (by kernel_rfl)
theorem aK:NmL (aa aG) "word":=.of (by kernel_rfl)
theorem eU:NmL (aa aG) "at":=.of (by kernel_rfl)
theorem dZ:NmL (aa aG) "signs":=.of (by kernel_rfl)
theorem gq:NmL (aa aG) "sign":=.of (by kernel_rfl)
theorem bN:NmL (aa aG) "some":=.of (by kernel_rfl)
theorem aZ:NmG (aa aG) "len":=.of (by kernel_rfl)
theorem rL (T:Txt K mg) (hq:bG (CXe P w)) {f:Addr} {fd:FuncData} (D:Df K mg "_law_odd_word" aG ["cell","word"] f fd):FnOk P w K mg base (CXe P w) 1 f fd ["cell","word"] (kW T):=by
 refine D.F.okC cL (fun vs H Q E h=>?_) (fun cdv A outer s H vs Q E hr h=>?_)
 . obtain ⟨c,w,rfl,_⟩:=h
   rfl
 . obtain ⟨c,w,rfl,pw,lw,k⟩:=h;refine ⟨_,(ah (aI (i:=2) cL.nd rfl (Or.inl eU.l) (ax dC (ax f6 (pvl 0 d9) ai) (ax iK (aP eZ aZ.g T.len cV (ae (pvl 1 aK) ag) (hn:=aZ.n) (hdb:=aZ.d)) ai))) (ah (aI (i:=3) cL.nd rfl (Or.inl dZ.l) ar) (ah (aI (i:=4) cL.nd rfl (Or.inl gq.l) (bH wN (pvl 3 dZ) (ax dC (ax f6 (pvl 0 d9) ai) (aP eZ aZ.g T.len cV (ae (pvl 3 dZ) ag) (hn:=aZ.n) (hdb:=aZ.d))) (fun _ _=>rfl))) (ah (aI (i:=5) cL.nd rfl (Or.inl bN.l) (bf (ae ar (ae ar (ae ar (ae ar (ae ar (ae ar (ae ar (ae (ax cW ar (pvl 1 aK)) (ae (ax cW ar (pvl 1 aK)) (ae (ax cW (pvl 1 aK) (ax sS ar ai)) (ae (ax sS ar ai) ag))))))))))))) (ah (aI (i:=5) cL.nd rfl (Or.inl bN.l) (ax vY (pvl 5 bN) (bf (ae ar (ae (ax cW (ax cW (kq Au (pvl 1 aK) pI (jH (pvl 2 eU))) (pvl 4 gq)) (kq Au (pvl 1 aK) (jH (pvl 2 eU)) pI)) (ae (ax cW (pvl 1 aK) ar) (ae (ax cW ar (pvl 1 aK)) (ae (ax sS ar ai) (ae ar (ae ar ag)))))))))) (ah (cz (dl PySem.F.plainAttrs_list PySem.F.slot_list_append PySem.F.type_list_append c7 (pvl 5 bN) (ae (ax cW (ax cW (pvl 1 aK) ar) (pvl 1 aK)) ag))) (aj (a9 (bH cg (pvl 5 bN) (ax dC (pvl 0 d9) (aP bU aZ.g T.len cV (ae (pvl 5 bN) ag) (hn:=aZ.n) (hdb:=aZ.d))) (fun _ _=>rfl)))))))))),?_⟩;rw [show L2.start ["cell","word","at","signs","sign","some"] [V.int c,V.str w]=[some (V.int c),some (V.str w),none,none,none,none] from rfl];unfold tSl sD tNoPart;walk_at "rd";have e37:(Str.ofString " !\"#$&'()*+,-./:;<=>?@AZ[\\]^_`az{|}~").length=36:=by decide +kernel
   have pS:Pl (Str.ofString " !\"#$&'()*+,-./:;<=>?@AZ[\\]^_`az{|}~"):=by unfold Pl;decide +kernel
   generalize Str.ofString " !\"#$&'()*+,-./:;<=>?@AZ[\\]^_`az{|}~"=S0 at e37 pS ⊢;have p0:Pl (Str.ofString "0"):=by unfold Pl;decide +kernel
   have pm:Pl (Str.ofString "-"):=by unfold Pl;decide +kernel
   have ps:Pl (Str.ofString " "):=by unfold Pl;decide +kernel
   have l0:(Str.ofString "0").length=1:=by decide +kernel
   have lm:(Str.ofString "-").length=1:=by decide +kernel
   have ls:(Str.ofString " ").length=1:=by decide +kernel
   have p060:Pl (Txt.mul (Str.ofString "0") 60):=by unfold Pl;decide +kernel
   have l060:(Txt.mul (Str.ofString "0") 60).length=60:=by decide +kernel
   have m060:MulOk (Str.ofString "0") 60:=⟨by decide,fun _ _=>by decide +kernel,fun _ _=>by decide +kernel⟩;have p961:Pl (Txt.mul (Str.ofString "9") 61):=by unfold Pl;decide +kernel
   have l961:(Txt.mul (Str.ofString "9") 61).length=61:=by decide +kernel
   have m961:MulOk (Str.ofString "9") 61:=⟨by decide,fun _ _=>by decide +kernel,fun _ _=>by decide +kernel⟩;have p960:Pl (Txt.mul (Str.ofString "9") 60):=by unfold Pl;decide +kernel
   have l960:(Txt.mul (Str.ofString "9") 60).length=60:=by decide +kernel
   have m960:MulOk (Str.ofString "9") 60:=⟨by decide,fun _ _=>by decide +kernel,fun _ _=>by decide +kernel⟩;refine ⟨⟨by decide,by decide⟩,w,rfl,ap (by omega),by omega,⟨by decide,by decide⟩,S0,rfl,ap (by omega),by omega,?_⟩;have q0:=Int.emod_nonneg (c / 1300) (show (S0.length:Int)≠0 by omega);have q1:=Int.emod_lt_of_pos (c / 1300) (show 0<(S0.length:Int) by omega);obtain ⟨sg,hs⟩:∃ sg,S0.cps.toList[(c / 1300 % (S0.length:Int)).toNat]?=some sg:=⟨_,List.getElem?_eq_getElem (by rw [<- bq];omega)⟩;have pg:Pl ⟨#[sg]⟩:=fun x hx=>by
     have:x=sg:=(by simpa using hx);rw [this];exact pS sg (List.mem_of_getElem? hs)
   have lg:(⟨#[sg]⟩:Str).length=1:=rfl;refine ⟨S0,_,sg,rfl,rfl,ap (by omega),jK q0 hs,?_⟩;generalize (⟨#[sg]⟩:Str)=sg at pg lg ⊢;refine ⟨_,rfl,w,rfl,ap (by omega),_,rfl,w,rfl,ap (by omega),_,rfl,m060,w,rfl,_,rfl,ap (by omega),_,rfl,m961,ap (by simp),fun p np=>?_⟩;generalize Txt.mul (Str.ofString "0") 60=z60 at p060 l060 np ⊢;generalize Txt.mul (Str.ofString "9") 61=n61 at p961 l961 np ⊢;have h1:upd H p (HO.lst ([Str.ofString "",Str.ofString "00",Str.ofString "-1",Str.ofString "+1",Str.ofString "1_0",Str.ofString "1.0",Str.ofString "x",Str.ofString "0" ++ w,Str.ofString "-" ++ w,w++z60,n61].map V.str)) p=_:=af;have s1:=Same.new (HO.lst ([Str.ofString "",Str.ofString "00",Str.ofString "-1",Str.ofString "+1",Str.ofString "1_0",Str.ofString "1.0",Str.ofString "x",Str.ofString "0" ++ w,Str.ofString "-" ++ w,w++z60,n61].map V.str)) np;change rSlS (V.str w) none _ (upd H p (HO.lst ([Str.ofString "",Str.ofString "00",Str.ofString "-1",Str.ofString "+1",Str.ofString "1_0",Str.ofString "1.0",Str.ofString "x",Str.ofString "0" ++ w,Str.ofString "-" ++ w,w++z60,n61].map V.str))) _;generalize upd H p (HO.lst ([Str.ofString "",Str.ofString "00",Str.ofString "-1",Str.ofString "+1",Str.ofString "1_0",Str.ofString "1.0",Str.ofString "x",Str.ofString "0" ++ w,Str.ofString "-" ++ w,w++z60,n61].map V.str))=H1 at h1 s1 ⊢;have o1:∀ x∈[Str.ofString "",Str.ofString "00",Str.ofString "-1",Str.ofString "+1",Str.ofString "1_0",Str.ofString "1.0",Str.ofString "x",Str.ofString "0" ++ w,Str.ofString "-" ++ w,w++z60,n61],OW w x:=by
     have c1:∀ x∈[Str.ofString "",Str.ofString "00",Str.ofString "-1",Str.ofString "+1",Str.ofString "1_0",Str.ofString "1.0",Str.ofString "x"],Pl x/\x.length<=62:=(by unfold Pl;decide +kernel);intro x hx;rcases List.mem_append.mp (show x∈[Str.ofString "",Str.ofString "00",Str.ofString "-1",Str.ofString "+1",Str.ofString "1_0",Str.ofString "1.0",Str.ofString "x"]++[Str.ofString "0" ++ w,Str.ofString "-" ++ w,w++z60,n61] from hx) with hx|hx
     . exact tN (c1 x hx).1 (c1 x hx).2
     . simp only [List.mem_cons,List.not_mem_nil,or_false] at hx;rcases hx with e|e|e|e <;> rw [e]
       . exact ⟨p0.app pw,by rw [dQ];omega⟩
       . exact ⟨pm.app pw,by rw [dQ];omega⟩
       . exact ⟨pw.app p060,by rw [dQ];omega⟩
       . exact tN p961 (by omega)
   generalize e11:[Str.ofString "",Str.ofString "00",Str.ofString "-1",Str.ofString "+1",Str.ofString "1_0",Str.ofString "1.0",Str.ofString "x",Str.ofString "0" ++ w,Str.ofString "-" ++ w,w++z60,n61]=L1 at h1 s1 o1;have l11:L1.length=11:=by rw [<- e11];rfl
   clear e11;have a1:=Txt.slice_le w none (some (c / 20 % ((w.length:Int)+1)));have a2:=pw.sub (ug (l:=none) (u:=some (c / 20 % ((w.length:Int)+1))));have b1:=Txt.slice_le w (some (c / 20 % ((w.length:Int)+1))) none;have b2:=pw.sub (ug (l:=some (c / 20 % ((w.length:Int)+1))) (u:=none));refine ⟨w,rfl,ap (by omega),_,rfl,_,rfl,ap (by omega),w,rfl,ap (by omega),_,rfl,_,rfl,ap (by rw [dQ];omega),w,rfl,_,rfl,ap (by omega),_,rfl,w,rfl,ap (by omega),_,rfl,m960,ap (by simp),fun p2 np2=>?_⟩;generalize Txt.mul (Str.ofString "9") 60=n60 at p960 l960 np2 ⊢;generalize eq1:Txt.slice w none (some (c / 20 % ((w.length:Int)+1)))=y1 at a1 a2 np2 ⊢;generalize eq2:Txt.slice w (some (c / 20 % ((w.length:Int)+1))) none=y2 at b1 b2 np2 ⊢;have s2:=Same.new (HO.lst ([Str.ofString "1e3",y1++sg++y2,w++Str.ofString " ",Str.ofString " " ++ w,n60,Str.ofString ".",Str.ofString "/"].map V.str)) np2;have o2:∀ x∈[Str.ofString "1e3",y1++sg++y2,w++Str.ofString " ",Str.ofString " " ++ w,n60,Str.ofString ".",Str.ofString "/"],OW w x:=by
     have c1:∀ x∈[Str.ofString "1e3",Str.ofString ".",Str.ofString "/"],Pl x/\x.length<=62:=(by unfold Pl;decide +kernel);intro x hx;simp only [List.mem_cons,List.not_mem_nil,or_false] at hx;rcases hx with e|e|e|e|e|e|e <;> rw [e]
     . exact tN (c1 _ (by simp)).1 (c1 _ (by simp)).2
     . exact ⟨(a2.app pg).app b2,by rw [dQ,dQ];omega⟩
     . exact ⟨pw.app ps,by rw [dQ];omega⟩
     . exact ⟨ps.app pw,by rw [dQ];omega⟩
     . exact tN p960 (by omega)
     . exact tN (c1 _ (by simp)).1 (c1 _ (by simp)).2
     . exact tN (c1 _ (by simp)).1 (c1 _ (by simp)).2
   refine Cs (s2 _ _ h1) af (ap (by simp [l11])) fun p3 np3=>?_;have s3:=s2.trans (Same.new (HO.lst (L1.map V.str++[Str.ofString "1e3",y1++sg++y2,w++Str.ofString " ",Str.ofString " " ++ w,n60,Str.ofString ".",Str.ofString "/"].map V.str)) np3);have o3:∀ x∈L1++[Str.ofString "1e3",y1++sg++y2,w++Str.ofString " ",Str.ofString " " ++ w,n60,Str.ofString ".",Str.ofString "/"],OW w x:=fun x hx=>(List.mem_append.mp hx).elim (o1 x) (o2 x);have l18:(L1++[Str.ofString "1e3",y1++sg++y2,w++Str.ofString " ",Str.ofString " " ++ w,n60,Str.ofString ".",Str.ofString "/"]).length=18:=by rw [List.length_append,l11];rfl
   generalize eL:L1++[Str.ofString "1e3",y1++sg++y2,w++Str.ofString " ",Str.ofString " " ++ w,n60,Str.ofString ".",Str.ofString "/"]=L18 at o3 l18;refine ⟨tyL af,w,rfl,_,rfl,ap (by omega),_,rfl,w,rfl,ap (by rw [dQ];omega),qf (xs:=L18.map V.str) (by rw [af,<- eL,List.map_append];rfl) (small (by rw [List.length_map];omega)) ⟨p3,rfl,_,.inl (SqL.of af),?_,?_⟩⟩
   . rw [List.length_append];simp
   . have np0:H p3=none:=s1.free (s2.free np3);have lall:(L18++[w++Str.ofString " " ++ w]).length=19:=(by rw [List.length_append,l18];rfl);have em:L18.map V.str++[V.str (w++Str.ofString " " ++ w)]=(L18++[w++Str.ofString " " ++ w]).map V.str:=(by rw [List.map_append];rfl);have oall:∀ x∈L18++[w++Str.ofString " " ++ w],OW w x:=fun x hx=>by
       rcases List.mem_append.mp hx with hx|hx
       . exact o3 x hx
       . rw [List.mem_singleton.mp hx];exact ⟨(pw.app ps).app pw,by rw [dQ,dQ];omega⟩
     rw [em];generalize L18++[w++Str.ofString " " ++ w]=LA at lall oall;rw [List.length_map,lall];obtain ⟨w',hw⟩:∃ w',LA[(c % ((19:Nat):Int)).toNat]?=some w':=⟨_,List.getElem?_eq_getElem (by omega)⟩;obtain ⟨g1,g2⟩:=oall w' (List.mem_of_getElem? hw);refine ixL af (v:=V.str w') (jK (by omega) (by rw [List.getElem?_map,hw];rfl)) (k w' _ ?_ g1 g2);exact fun b o e=>by rw [am (au e np0)];exact s3 _ _ (s1 _ _ e)
def lF (T:Txt K mg):Sp:=fun vs H Q _=>∃ (l0:Addr) (c:Int) (ws:List Str),vs=[.ref l0,.int c]/\H l0=some (.lst (ws.map V.str))/\WsO 10 20 ws/\∀ l ws' H',H l=none->Same H H'->H' l=some (.lst (ws'.map V.str))->WsO 82 21 ws'->Q (.ref l) H'
abbrev aO:Stmt:=top 36
theorem g5:FnScope ["words","cell","told","at"] ["words","cell"] (aa aO):=FnScope.of (by kernel_rfl)
theorem mz:NmL (aa aO) "words":=.of (by kernel_rfl)
theorem bS:NmL (aa aO) "cell":=.of (by kernel_rfl)
theorem a7:NmL (aa aO) "told":=.of (by kernel_rfl)
theorem ci:NmL (aa aO) "at":=.of (by kernel_rfl)
theorem eI:NmG (aa aO) "list":=.of (by kernel_rfl)
theorem fb:NmG (aa aO) "len":=.of (by kernel_rfl)
theorem d7:NmG (aa aO) "_law_odd_word":=.of (by kernel_rfl)
theorem tI (T:Txt K mg) (hq:bG (CXe P w)) {f:Addr} {fd:FuncData} (D:Df K mg "_law_changed" aO ["words","cell"] f fd) {cA:Addr} {kR:FuncData} (da:Df K mg "_law_odd_word" aG ["cell","word"] cA kR) (G_law_odd_word:FnOk P w K mg base (CXe P w) 1 cA kR ["cell","word"] (kW T)):FnOk P w K mg base (CXe P w) 2 f fd ["words","cell"] (lF T):=by
 refine D.F.okC g5 (fun vs H Q E h=>?_) (fun cdv A outer s H vs Q E hr h=>?_)
 . obtain ⟨l0,c,ws,rfl,_⟩:=h
   rfl
 . obtain ⟨l0,c,ws,rfl,e0,wo',k⟩:=h;have hv:=hr.units;refine ⟨_,(ah (aI (i:=2) g5.nd rfl (Or.inl a7.l) (f7 vG eI.g T.list D4 (ae (pvl 0 mz) ag) (hn:=eI.n) (hdb:=eI.d))) (ah (ba (aF (rO hv) (pvl 2 a7) (bf ag) (aH _)) (aj (a9 (bf (ae (bH cg (bf (ae ar (ae ar (ae ar (ae ar ag))))) (ax dC (pvl 1 bS) ai) (fun _ _=>rfl)) ag)))) aw) (ah (aI (i:=3) g5.nd rfl (Or.inl ci.l) (ax dC (ax f6 (pvl 1 bS) ai) (aP bU fb.g T.len cV (ae (pvl 2 a7) ag) (hn:=fb.n) (hdb:=fb.d)))) (ah (ba (aF cQ (ax dC (pvl 1 bS) ai) ai (aH _)) (aj (E4 (bC G_law_odd_word (hr.mono (by decide)) d7.g da.m da.F.kp da.b .nil (dj hq) (ae (ax f6 (pvl 1 bS) ai) (ae (bH cg (pvl 2 a7) (pvl 3 ci) (fun _ _=>rfl)) ag)) (hdb:=d7.d)) (E7 (pvl 2 a7) (pvl 3 ci) Cf))) aw) (ah (ba (aF cQ (ax dC (pvl 1 bS) ai) ai (aH _)) (aj (cz (dl PySem.F.plainAttrs_list PySem.F.slot_list_pop PySem.F.type_list_pop Bp (pvl 2 a7) (ae (pvl 3 ci) ag)))) aw) (ah (ba (aF cQ (ax dC (pvl 1 bS) ai) ai (aH _)) (aj (cz (dl PySem.F.plainAttrs_list PySem.F.slot_list_insert PySem.F.type_list_insert A3 (pvl 2 a7) (ae (pvl 3 ci) (ae (bH cg (pvl 2 a7) (pvl 3 ci) (fun _ _=>rfl)) ag))))) aw) (aj (a9 (pvl 2 a7))))))))),?_⟩;rw [show L2.start ["words","cell","told","at"] [V.ref l0,V.int c]=[some (V.ref l0),some (V.int c),none,none] from rfl];refine dn fun N1 h1=>?_;walk_at "rd";refine ⟨_,.inl (SqL.of e0),fun l nl=>h1 _ _ (dn fun N2 h2=>?_)⟩;have s1:=Same.new (HO.lst (ws.map V.str)) nl;have e1:upd H l (.lst (ws.map V.str)) l=some (.lst (ws.map V.str)):=af;generalize upd H l (.lst (ws.map V.str))=H1 at s1 e1 ⊢;walk_at "rd";refine ⟨ap (by simp),fun r nr=>?_⟩;have s2:=Same.new (HO.lst []) nr;refine tG (fun w hw=>(wo'.2 w hw).1) (s2 _ _ e1) af ⟨_,rfl,?_⟩;have e2:=s2 _ _ e1;have s12:=s1.trans s2;generalize upd H1 r (.lst [])=H2 at e2 s12 ⊢;by_cases z:ws=[]
   . rw [if_pos (decide_eq_true z)];refine ⟨ap (by simp),fun q nq=>⟨by decide,?_⟩⟩;have s3:=Same.new (HO.lst [V.str (Str.ofString ""),V.str (Str.ofString " "),V.str (Str.ofString "0"),V.str (Str.ofString ".")]) nq;obtain ⟨w,hw⟩:∃ w,[Str.ofString "",Str.ofString " ",Str.ofString "0",Str.ofString "."][(c % 4).toNat]?=some w:=⟨_,List.getElem?_eq_getElem (by simp;omega)⟩;have hp:∀ w∈[Str.ofString "",Str.ofString " ",Str.ofString "0",Str.ofString "."],Pl w/\w.length<=82:=(by unfold Pl;decide +kernel);refine ixL af (v:=V.str w) (jK (by omega) (by rw [show [V.str (Str.ofString ""),V.str (Str.ofString " "),V.str (Str.ofString "0"),V.str (Str.ofString ".")]=[Str.ofString "",Str.ofString " ",Str.ofString "0",Str.ofString "."].map V.str from rfl,List.getElem?_map,hw];rfl)) ⟨ap (by simp),fun p np=>?_⟩;refine k p [w] _ (s12.free (s3.free np)) (s12.trans (s3.trans (Same.new _ np))) af ⟨by simp,fun x hx=>?_⟩;rw [List.mem_singleton.mp hx];exact hp w (List.mem_of_getElem? hw)
   . rw [if_neg (by rw [decide_eq_true_eq];exact z)];refine h2 _ _ (dn fun N3 h3=>?_);walk_at "rd";have w0:=List.length_pos_iff.mpr z;have l20:=wo'.1;refine ⟨⟨by decide,by decide⟩,_,.inl (SqL.of e2),by rw [List.length_map];omega,h3 _ _ ?_⟩;rw [List.length_map];have q0:=Int.emod_nonneg (c / 5) (show (ws.length:Int)≠0 by omega);have q1:=Int.emod_lt_of_pos (c / 5) (show 0<(ws.length:Int) by omega);obtain ⟨at',hat⟩:∃ at':Nat,c / 5 % (ws.length:Int)=at':=⟨_,(Int.toNat_of_nonneg q0).symm⟩;rw [hat] at q0 q1 ⊢;obtain ⟨w,hw⟩:∃ w,ws[at']?=some w:=⟨_,List.getElem?_eq_getElem (by omega)⟩;have nl2:H l=none:=nl;walk_at "rd";have fin:∀ ws':List Str,WsO 82 21 ws'->∀ H3:Hp,Same H H3->Q (V.ref l) (upd H3 l (.lst (ws'.map V.str))):=fun ws' ow H3 s3=>k l ws' _ nl (fun b o e=>by rw [am (au e nl)];exact s3 _ _ e) af ow;have up:∀ w∈ws,Pl w/\w.length<=82:=fun w hw=>⟨(wo'.2 w hw).1,Nat.le_trans (wo'.2 w hw).2 (by decide)⟩;have ww:=List.mem_of_getElem? hw;have ixw:atI (ws.map V.str) (at':Int)=some (V.str w):=tS (by rw [List.getElem?_map,hw];rfl);refine ⟨by decide,?_⟩;by_cases c1:c % 5=1
     . rw [if_pos c1];refine ⟨⟨by decide,by decide⟩,ixL e2 ixw ?_⟩;refine ⟨c / 60,w,rfl,(wo'.2 w ww).1,Nat.le_trans (wo'.2 w ww).2 (by decide),fun w' H3 s3 pw' lw'=>Fz (s3 _ _ e2) (by omega) (by rw [List.length_map];exact q1) ⟨by decide,?_⟩⟩;rw [if_neg (by omega)];refine ⟨by decide,?_⟩;rw [if_neg (by omega),<- List.map_set];refine fin _ ⟨by rw [List.length_set];omega,fun x hx=>?_⟩ _ (s12.trans s3);rcases List.mem_or_eq_of_mem_set hx with hx|rfl
       . exact up x hx
       . exact ⟨pw',by have:=(wo'.2 w ww).2;omega⟩
     . rw [if_neg c1];refine ⟨by decide,?_⟩;by_cases c2:c % 5=2
       . rw [if_pos c2];refine ⟨tyL e2,l,_,_,at',V.str w,rfl,rfl,e2,by omega,by omega,?_,by rw [List.getElem?_map,hw];rfl,by decide,?_⟩
         . unfold seqIndex?;rw [List.length_map];show (if (decide (0<=(if (at':Int)<0 then (at':Int)+ws.length else (at':Int))) && decide ((if (at':Int)<0 then (at':Int)+ws.length else (at':Int))<ws.length))=true then some (if (at':Int)<0 then (at':Int)+ws.length else (at':Int)).toNat else none)=some at';rw [if_neg (show ¬ (at':Int)<0 by omega),if_pos (by rw [Bool.and_eq_true,decide_eq_true_eq,decide_eq_true_eq];omega)]
           rfl
         . rw [if_neg (by omega),AZ];exact fin _ ⟨Nat.le_trans (List.length_eraseIdx_le ..) (by omega),fun x hx=>up x (List.mem_of_mem_eraseIdx hx)⟩ _ s12
       . rw [if_neg c2];refine ⟨by decide,?_⟩;by_cases c3:c % 5=3
         . rw [if_pos c3];refine ⟨tyL e2,ixL e2 ixw (FB e2 (by omega) (by rw [List.length_map];omega) (small (by rw [List.length_map];omega)) ?_)⟩;rw [<- List.map_take,<- List.map_drop,<- List.map_cons,<- List.map_append];refine fin _ ⟨by rw [List.length_append,List.length_cons,List.length_take,List.length_drop];omega,fun x hx=>?_⟩ _ s12;rcases List.mem_append.mp hx with hx|hx
           . exact up x (List.mem_of_mem_take hx)
           . rcases List.mem_cons.mp hx with rfl|hx
             . exact up _ ww
             . exact up x (List.mem_of_mem_drop hx)
         . rw [if_neg c3];exact k l ws H2 nl s12 e2 ⟨by omega,up⟩
def cr (T:Txt K mg):Sp:=fun vs H Q _=>∃ (ea fI:Addr) (n:Int),vs=[.ref ea,.int n]/\H ea=some (ExN ea (.ref T.BadText) none)/\jA K T.BadText fI/\∀ dx,H dx=none->dx≠ea->Q .non (upd (upd H ea (ExN ea (.ref T.BadText) (some dx))) dx (.xd [("at",.int n)]))
abbrev aA:Stmt:=xU (top 6) 0
theorem nW:FnScope ["self","at"] ["self","at"] (aa aA):=FnScope.of (by kernel_rfl)
theorem fh:NmL (aa aA) "self":=.of (by kernel_rfl)
theorem fN:NmL (aa aA) "at":=.of (by kernel_rfl)
theorem dJ:NmG (aa aA) "TollError":=.of (by kernel_rfl)
theorem n8 (T:Txt K mg) (hq:bG (CXe P w)) {f:Addr} {fd:FuncData} (F:Fun K "__init__" "BadText.__init__" aA f fd):FnOk P w K mg base (CXe P w) 1 f fd ["self","at"] (cr T):=by
 refine F.okC nW (fun vs H Q E h=>?_) (fun cdv A outer s H vs Q E hr h=>?_)
 . obtain ⟨ea,fI,n,rfl,_⟩:=h
   rfl
 . obtain ⟨ea,fI,n,rfl,he,xo,k⟩:=h;refine ⟨_,(ah (cz (wV T.xH dJ.g T.pW (ae (pvl 0 fh) (ae (pvl 1 fN) ag)) (hdb:=dJ.d))) (aj (D5 rfl (pvl 0 fh) (pvl 1 fN) rfl))),?_⟩;rw [show L2.start ["self","at"] [V.ref ea,V.int n]=[some (V.ref ea),some (V.int n)] from rfl];show ∃ v,_;refine ⟨V.ref ea,rfl,V.int n,rfl,?_⟩;refine ⟨ea,T.BadText,fI,none,[V.int n],rfl,ap (by simp),xo,he,?_⟩;show ∃ v,_;refine ⟨V.int n,rfl,V.ref ea,rfl,?_⟩;exact ⟨ea,T.BadText,T.TollError,rfl,he,T.An,k⟩
def dN (T:Txt K mg):Sp:=fun vs H Q E=>∃ (l:Addr) (xs:List V) (i:Int),vs=[.ref l,.int i]/\H l=some (.lst xs)/\((xs.length:Int)<=i->Q .non H)/\(i<(xs.length:Int)->∀ dx H',Same H H'->H' dx=some (.xd [("at",.int (i+1))])->E (.ref T.BadText) (some dx) H')
abbrev bo:Stmt:=top 28
theorem wj:FnScope ["rows","last"] ["rows","last"] (aa bo):=FnScope.of (by kernel_rfl)
theorem pL:NmL (aa bo) "rows":=.of (by kernel_rfl)
theorem jw:NmL (aa bo) "last":=.of (by kernel_rfl)
theorem fW:NmG (aa bo) "len":=.of (by kernel_rfl)
theorem gD:NmG (aa bo) "BadText":=.of (by kernel_rfl)
theorem wy (T:Txt K mg) (hq:bG (CXe P w)) {f:Addr} {fd:FuncData} (D:Df K mg "check_end" bo ["rows","last"] f fd) {f_BadText___init__:Addr} {aq:FuncData} (F_BadText___init__:Fun K "__init__" "BadText.__init__" aA f_BadText___init__ aq) (b_BadText:Binds K aq ["self","at"] []) (bR:jA K T.BadText f_BadText___init__) (G_BadText_init:FnOk P w K mg base (CXe P w) 1 f_BadText___init__ aq ["self","at"] (cr T)):FnOk P w K mg base (CXe P w) 3 f fd ["rows","last"] (dN T):=by
 refine D.F.okX wj (fun vs H Q E h=>?_) (fun cdv A outer s H vs Q E hr h=>?_)
 . obtain ⟨l,xs,i,rfl,_⟩:=h
   rfl
 . obtain ⟨l,xs,i,rfl,hl,k,ke⟩:=h;refine ⟨_,(aj (ba (aF C4 (aP bU fW.g T.len cV (ae (pvl 0 pL) ag) (hn:=fW.n) (hdb:=fW.d)) (pvl 1 jw) (aH _)) (aj (pc bR G_BadText_init hq (hr.mono (by decide)) b_BadText rfl rfl sQ gD.g T.iY (ae (ax iK (pvl 1 jw) ai) ag) (hdb:=gD.d))) aw)),?_⟩;rw [show L2.start ["rows","last"] [V.ref l,V.int i]=[some (V.ref l),some (V.int i)] from rfl];walk_at "rd";refine ⟨xs,.inl (SqL.of hl),?_⟩;by_cases z:i<(xs.length:Int)
   . rw [if_pos z];unfold sT;walk_at "rd";refine ⟨ap (by simp),fun ea ne=>⟨ea,f_BadText___init__,_,rfl,af,bR,fun dx nd nde=>⟨rfl,some dx,?_,?_⟩⟩⟩
     . rw [am (Ne.symm nde),af]
     . exact ke z dx _ (tE ne nd nde) (by rw [kf nde,af])
   . rw [if_neg z];exact k (by omega)
def pi (T:Txt K mg):Sp:=fun vs H Q _=>∃ w:Str,vs=[.str w]/\(w.cps.all fun x=>decide (x<128))=true/\w.length<=60000/\(Fig w.cps.toList->∀ H',Same H H'->Q (.bl true) H')/\(¬ Fig w.cps.toList->∀ H',Same H H'->Q (.bl false) H')
abbrev bM:Stmt:=top 27
theorem vF:FnScope ["word"] ["word"] (aa bM):=FnScope.of (by kernel_rfl)
theorem dM:NmL (aa bM) "word":=.of (by kernel_rfl)
theorem fU:NmG (aa bM) "len":=.of (by kernel_rfl)
theorem eT:NmG (aa bM) "MOST_FIGURES":=.of (by kernel_rfl)
theorem fV:NmG (aa bM) "all":=.of (by kernel_rfl)
theorem wp (T:Txt K mg) (hq:bG (CXe P w)) {f:Addr} {fd:FuncData} (D:Df K mg "is_number" bM ["word"] f fd):FnOk P w K mg base (CXe P w) 1 f fd ["word"] (pi T):=by
 refine D.F.okC vF (fun vs H Q E h=>?_) (fun cdv A outer s H vs Q E hr h=>?_)
 . obtain ⟨w,rfl,_⟩:=h
   rfl
 . obtain ⟨w,rfl,as,wl,k,kn⟩:=h;refine ⟨_,(ah (ba (PW.pt (r9 (fi (nz jD jD ai (aP eZ fU.g T.len cV (ae (pvl 0 dM) ag) (hn:=fU.n) (hdb:=fU.d)) (m5 eT.g T.c_MOST_FIGURES (hd:=eT.d)))) (oN (fi (fQ (aP (Bx rfl) fV.g T.all Eo (ae (xN rfl (g6 (Nc:=["sign"]) 1 (by decide +kernel) (by decide +kernel) rfl (by decide +kernel) rfl) (AD (pvl 0 dM)) (fun _ _ _ _=>(cj (i:=0) (show (["sign"]:List Str).Nodup from by decide +kernel) rfl (Or.inl rfl))) (fun _ _ _ _=>hV) (fun _ _ _ _=>(ft AR (pv 0) (CA (by rfl) T.c_FIGURES) (by with_unfolding_all rfl)))) ag) (hn:=fV.n) (hdb:=fV.d))))))) (aj (a9 pC)) aw) (aj (a9 (Fr (ft cQ (pvl 0 dM) ar (aH _)) (A4 (ft nD (bH wN (pvl 0 dM) ai (fun _ _=>rfl)) ar (aH _))))))),?_⟩;rw [show L2.start ["word"] [V.str w]=[some (V.str w)] from rfl];refine dn fun N1 h1=>?_;walk_at "rd";have ln:w.length=w.cps.toList.length:=bq w;refine ⟨w,rfl,Nat.le_trans wl (by decide),?_⟩;rw [ln];by_cases l1:(1:Int)<=(w.cps.toList.length:Int)
   . rw [if_pos l1];by_cases l60:(w.cps.toList.length:Int)<=60
     . rw [if_neg (fun z=>z l60)];refine ⟨w,rfl,as,fun p hp=>?_⟩;refine Cv (fun i ys σ H2=>Same H H2/\H2 p=some (.lst ys)/\ys=((w.cps.toList.take i).map fun c=>V.bl (decide (48<=c/\c<=57)))/\∃ v,σ=[v]) ⟨Same.new _ hp,af,rfl,_,rfl⟩ ?_ ?_
       . rintro i c ys σ H2 N hN hi ⟨s2,h2,rfl,v,rfl⟩;have hil:i<w.cps.toList.length:=(List.getElem?_eq_some_iff.mp hi).1;walk_at "rd";refine ⟨_,rfl,_,rfl,h2,small (by rw [List.length_map,List.length_take];omega),?_⟩;rw [uK];refine hN _ _ _ ⟨?_,af,?_,_,rfl⟩
         . exact fun b o e=>by rw [am (au e hp)];exact s2 _ _ e
         . rw [List.take_succ,hi,List.map_append]
           rfl
       . rintro ys σ H2 ⟨s2,h2,rfl,v,rfl⟩;have tk:w.cps.toList.take w.cps.toList.length=w.cps.toList:=List.take_length;refine ⟨p,rfl,w.cps.toList.map fun c=>decide (48<=c/\c<=57),by rw [List.map_map];rw [tk] at h2;exact SqL.of h2,?_⟩;by_cases al:∀ c∈w.cps.toList,48<=c/\c<=57
         . rw [if_neg (by rw [Bool.not_eq_false,List.all_eq_true];intro b hb;obtain ⟨c,hc,rfl⟩:=List.mem_map.mp hb;exact decide_eq_true (al c hc))];refine h1 _ _ ?_;walk_at "rd";by_cases c0:V.str w=V.str (Str.ofString "0")
           . rw [if_pos c0];have e:w=Str.ofString "0":=(by injection c0);exact k ⟨by omega,by omega,al,.inl (by rw [e];rfl)⟩ _ s2
           . rw [if_neg c0];obtain ⟨c,r,ec⟩:∃ c r,w.cps.toList=c::r:=by
               cases hh:w.cps.toList with
               | nil=>rw [hh] at l1;exact absurd l1 (by decide)
               | cons c r=>exact ⟨c,r,rfl⟩
             refine ixS (i:=0) (by omega) (by rw [ec];rfl) ⟨rfl,?_⟩;by_cases c48:c=48
             . rw [show decide (V.str ⟨#[c]⟩=V.str (Str.ofString "0"))=true from decide_eq_true (by rw [c48];rfl)];refine kn (fun f=>?_) _ s2;rcases f.lead with z|z
               . exact c0 (congrArg V.str (jG z))
               . exact z (by rw [ec,c48];rfl)
             . rw [show decide (V.str ⟨#[c]⟩=V.str (Str.ofString "0"))=false from decide_eq_false fun z=>c48 (by injection z with z;exact (List.cons.inj (show [c]=[48] from congrArg (fun s:Str=>s.cps.toList) z)).1)];exact k ⟨by omega,by omega,al,.inr (by rw [ec];exact fun z=>c48 (by injection z))⟩ _ s2
         . rw [if_pos (by
             rw [<- Bool.not_eq_true,List.all_eq_true];exact fun z=>al fun c hc=>of_decide_eq_true (z _ (List.mem_map.mpr ⟨c,hc,rfl⟩)))]
           exact kn (fun f=>al f.all) _ s2
     . rw [if_pos l60];exact kn (fun f=>absurd f.len60 (by omega)) H (Same.refl _)
   . rw [if_neg l1];exact kn (fun f=>absurd f.len1 (by omega)) H (Same.refl _)
def ik (T:Txt K mg):Sp:=fun vs H Q E=>∃ (w:Str) (i:Int),vs=[.str w,.int i]/\(w.cps.all fun x=>decide (x<128))=true/\w.length<=60000/\(∀ n,numW w=some n->∀ H',Same H H'->Q (.int (n:Int)) H')/\(numW w=none->∀ dx H',Same H H'->H' dx=some (.xd [("at",.int i)])->E (.ref T.BadText) (some dx) H')
abbrev aV:Stmt:=top 26
theorem tq:FnScope ["word","at"] ["word","at"] (aa aV):=FnScope.of (by kernel_rfl)
theorem gN:NmL (aa aV) "word":=.of (by kernel_rfl)
theorem pK:NmL (aa aV) "at":=.of (by kernel_rfl)
theorem eX:NmG (aa aV) "is_number":=.of (by kernel_rfl)
theorem fM:NmG (aa aV) "BadText":=.of (by kernel_rfl)
theorem fg:NmG (aa aV) "int":=.of (by kernel_rfl)
theorem tz (T:Txt K mg) (hq:bG (CXe P w)) {f:Addr} {fd:FuncData} (D:Df K mg "read_number" aV ["word","at"] f fd) {f_BadText___init__:Addr} {aq:FuncData} (F_BadText___init__:Fun K "__init__" "BadText.__init__" aA f_BadText___init__ aq) (b_BadText:Binds K aq ["self","at"] []) (bR:jA K T.BadText f_BadText___init__) (G_BadText_init:FnOk P w K mg base (CXe P w) 1 f_BadText___init__ aq ["self","at"] (cr T)) {dF:Addr} {pf:FuncData} (eD:Df K mg "is_number" bM ["word"] dF pf) (G_is_number:FnOk P w K mg base (CXe P w) 1 dF pf ["word"] (pi T)):FnOk P w K mg base (CXe P w) 3 f fd ["word","at"] (ik T):=by
 refine D.F.okX tq (fun vs H Q E h=>?_) (fun cdv A outer s H vs Q E hr h=>?_)
 . obtain ⟨w,i,rfl,_⟩:=h
   rfl
 . obtain ⟨w,i,rfl,as,wl,k,ke⟩:=h;refine ⟨_,(ah (ba (fi (fQ (bC G_is_number (hr.mono (by decide)) eX.g eD.m eD.F.kp eD.b .nil yU (ae (pvl 0 gN) ag) (hdb:=eX.d)))) (aj (pc bR G_BadText_init hq (hr.mono (by decide)) b_BadText rfl rfl sQ fM.g T.iY (ae (pvl 1 pK) ag) (hdb:=fM.d))) aw) (aj (a9 (f7 zM fg.g T.int zV (ae (pvl 0 gN) ag) (hn:=fg.n) (hdb:=fg.d))))),?_⟩;rw [show L2.start ["word","at"] [V.str w,V.int i]=[some (V.str w),some (V.int i)] from rfl];walk_at "rd";refine ⟨w,rfl,as,wl,fun f H' s1=>⟨true,rfl,?_⟩,fun f H' s1=>⟨false,rfl,?_⟩⟩
   . rw [if_neg (by simp)];have l60:=f.len60;obtain ⟨e,b⟩:=f.fs;refine ⟨w,rfl,nv w.cps.toList,?_,?_,k _ (by unfold numW;rw [if_pos f]) _ s1⟩
     . have:=Br _ b;rw [<- e] at this;exact this
     . rw [bq];omega
   . rw [if_pos rfl];show ∃ v,_;refine ⟨V.int i,rfl,ap (by simp),fun ea ne=>⟨ea,f_BadText___init__,_,rfl,af,bR,fun dx nd nde=>⟨rfl,some dx,?_,?_⟩⟩⟩
     . rw [am (Ne.symm nde),af]
     . exact ke (iL.mpr f) dx _ (s1.trans (tE ne nd nde)) (by rw [kf nde,af])
def gF (T:Txt K mg):Sp:=fun vs H Q E=>∃ (z r0:Str) (ao:List Str),vs=[.str z]/\z.length<=60000/\Txt.split z (Str.ofString "\n")=r0::ao/\r0.length<=60000/\(wrds r0).length<=2000/\(∀ w∈wrds r0,WOk w) /\
 (∀ ns:List Nat,(wrds r0).map numW=ns.map some->ao=[]->∀ l H',H l=none->Same H H'->H' l=some (.lst (vNs ns))->Q (.ref l) H') /\
 ((∃ w∈wrds r0,numW w=none)->∀ dx H',Same H H'->H' dx=some (.xd [("at",.int 1)])->E (.ref T.BadText) (some dx) H') /\
 ((∀ w∈wrds r0,numW w≠none)->ao≠[]->∀ dx H',Same H H'->H' dx=some (.xd [("at",.int 2)])->E (.ref T.BadText) (some dx) H')
abbrev aQ:Stmt:=top 21
theorem eR:FnScope ["text","rows","numbers"] ["text"] (aa aQ):=FnScope.of (by kernel_rfl)
theorem my:NmL (aa aQ) "text":=.of (by kernel_rfl)
theorem c4:NmL (aa aQ) "rows":=.of (by kernel_rfl)
theorem dm:NmL (aa aQ) "numbers":=.of (by kernel_rfl)
theorem eO:NmG (aa aQ) "check_end":=.of (by kernel_rfl)
theorem sh (T:Txt K mg) (hq:bG (CXe P w)) {f:Addr} {fd:FuncData} (D:Df K mg "read_numbers" aQ ["text"] f fd) {bD:Addr} {cG:FuncData} (bB:Df K mg "check_end" bo ["rows","last"] bD cG) (G_check_end:FnOk P w K mg base (CXe P w) 3 bD cG ["rows","last"] (dN T)) {bL:Addr} {dR:FuncData} (br:Df K mg "read_number" aV ["word","at"] bL dR) (G_read_number:FnOk P w K mg base (CXe P w) 3 bL dR ["word","at"] (ik T)):FnOk P w K mg base (CXe P w) 4 f fd ["text"] (gF T):=by
 refine D.F.okX eR (fun vs H Q E h=>?_) (fun cdv A outer s H vs Q E hr h=>?_)
 . obtain ⟨z,r0,ao,rfl,_⟩:=h
   rfl
 . obtain ⟨z,r0,ao,rfl,zl,er,rl,wl,wo,k,ke1,ke2⟩:=h;refine ⟨_,(ah (aI (i:=1) eR.nd rfl (Or.inl c4.l) (dl PySem.F.plainAttrs_str PySem.F.slot_str_split PySem.F.type_str_split fY (pvl 0 my) (ae ar ag))) (ah (aI (i:=2) eR.nd rfl (Or.inl dm.l) (bf ag)) (ah (ba (aF nD (bH cg (pvl 1 c4) ai (fun _ _=>rfl)) ar (aH _)) (aj (pN (i:=2) rfl rfl rfl zD eR.nd rfl dm.l rfl (g6 (Nc:=["word"]) 1 (by decide +kernel) (by decide +kernel) rfl (by decide +kernel) rfl) (gg (dl PySem.F.plainAttrs_str PySem.F.slot_str_split PySem.F.type_str_split fY (bH cg (pvl 1 c4) ai (fun _ _=>rfl)) (ae ar ag))) (fun _ _ _ _=>(cj (i:=0) (show (["word"]:List Str).Nodup from by decide +kernel) rfl (Or.inl rfl))) (fun _ _ _ _=>hV) (fun _ _ _ _=>(im G_read_number (hr.mono (by decide)) (by rfl) br.m br.F.kp br.b .nil (ae (pv 0) (ae ai ag)))))) aw) (ah (cz (bC G_check_end (hr.mono (by decide)) eO.g bB.m bB.F.kp bB.b .nil yU (ae (pvl 1 c4) (ae ai ag)) (hdb:=eO.d))) (aj (a9 (pvl 2 dm))))))),?_⟩;rw [show L2.start ["text","rows","numbers"] [V.str z]=[some (V.str z),none,none] from rfl];walk_at "rd";refine ⟨by simp [tyV],_,rfl,_,rfl,rfl,zl,fun r hr1=>?_⟩;rw [er];refine ⟨ap (by simp),fun p hp=>?_⟩;have s1:Same H (upd H r (.lst ((r0::ao).map V.str))):=Same.new _ hr1;have s2:=s1.trans (Same.new (.lst []) hp);have h1:(upd (upd H r (.lst ((r0::ao).map V.str))) p (.lst [])) r=some (.lst (V.str r0::ao.map V.str)):=Same.new _ hp _ _ af;have a0:atI (V.str r0::ao.map V.str) 0=some (V.str r0):=jK (Int.le_refl 0) rfl;refine ⟨r,_,0,V.str r0,rfl,rfl,SqL.of h1,a0,rfl,?_⟩;have end_:∀ (Hx:Hp) (l:Addr) (ns:List Nat),Same H Hx->H l=none->Hx l=some (.lst (vNs ns))->Hx r=some (.lst (V.str r0::ao.map V.str))->(wrds r0).map numW=ns.map some->dN T [V.ref r,V.int 1] Hx (fun _ H1=>Q (V.ref l) H1) E:=fun Hx l ns sx nl el hr' en=>by
     refine ⟨r,_,1,rfl,hr',fun le=>k ns en ?_ l Hx nl sx el,fun lt dx H' s' hd=>ke2 (fun w hw z=>?_) ?_ dx H' (sx.trans s') hd⟩
     . cases ao with
       | nil=>rfl
       | cons _ _=>simp at le;omega
     . have:numW w∈ns.map some:=(by rw [<- en];exact List.mem_map.mpr ⟨w,hw,rfl⟩);obtain ⟨n,_,e⟩:=List.mem_map.mp this;rw [z] at e;cases e
     . rintro rfl;simp at lt
   by_cases c:r0=Str.ofString ""
   . rw [if_neg (fun z=>z (congrArg V.str c))];exact end_ _ p [] s2 (s1.free hp) af h1 (by unfold wrds;rw [if_pos c];rfl)
   . rw [if_pos (fun z=>c (by injection z))];have ew:wrds r0=Txt.split r0 (Str.ofString " "):=(by unfold wrds;rw [if_neg c]);refine ⟨r,_,0,V.str r0,rfl,rfl,SqL.of h1,a0,by simp [tyV],_,rfl,_,rfl,rfl,rl,fun q hq=>?_⟩;rw [<- ew];refine ⟨⟨_,SqL.of af⟩,fun l nl=>?_⟩;have s3:=s2.trans (Same.new (.lst ((wrds r0).map V.str)) hq);generalize hG:upd (upd (upd H r (.lst ((r0::ao).map V.str))) p (.lst [])) q (.lst ((wrds r0).map V.str))=G at s3 nl ⊢;have hr4:G r=some (.lst (V.str r0::ao.map V.str)):=by
       rw [<- hG];exact Same.new _ hq _ _ h1
     have hq4:G q=some (.lst ((wrds r0).map V.str)):=by
       rw [<- hG];exact af
     refine iE (K:=K) (c:=true) (a:=q) (xs:=(wrds r0).map V.str) (fun i ys σ H2=>Same G H2/\H2 l=some (.lst ys)/\(∃ ns:List Nat,ys=vNs ns/\((wrds r0).take i).map numW=ns.map some)/\∃ v,σ=[v]) ⟨Same.new _ nl,af,⟨[],rfl,rfl⟩,_,rfl⟩ (fun i ys σ H2 _ ⟨z,_⟩=>SqL.of (z _ _ hq4)) ?_ ?_
     . rintro i x ys σ H2 N hN hi ⟨s5,h2,⟨ns,rfl,en⟩,v,rfl⟩;obtain ⟨w,hw,rfl⟩:=List.getElem?_map_some hi;have et:(wrds r0).take (i+1)=(wrds r0).take i++[w]:=(by rw [List.take_succ,hw];rfl);have hil:i<(wrds r0).length:=(List.getElem?_eq_some_iff.mp hw).1;have wm:=List.mem_of_getElem? hw;have nsl:ns.length=i:=by
         have:=congrArg List.length en;rw [List.length_map,List.length_map,List.length_take] at this;omega
       walk_at "rd";refine ⟨w,1,rfl,(wo w wm).1,(wo w wm).2,fun n hn H3 s6=>⟨s6 _ _ h2,small (by unfold vNs;rw [List.length_map];omega),hN _ _ _ ⟨?_,af,⟨ns++[n],?_,?_⟩,_,rfl⟩⟩,fun hn dx H3 s6 hd=>?_⟩
       . exact fun b o e=>by rw [am (au e nl)];exact s6 _ _ (s5 _ _ e)
       . unfold vNs;rw [List.map_append];rfl
       . rw [et,List.map_append,List.map_append,en];show _++[numW w]=_;rw [hn]
         rfl
       . exact ke1 ⟨w,wm,hn⟩ dx H3 ((s3.trans s5).trans s6) hd
     . rintro ys σ H2 ⟨s5,h2,⟨ns,rfl,en⟩,v,rfl⟩;rw [List.length_map,List.take_length] at en;exact end_ H2 l ns (s3.trans s5) (s3.free nl) h2 (s5 _ _ hr4) en
def jm (T:Txt K mg):Sp:=fun vs H Q E=>∃ (l:Addr) (ws:List Str) (n i:Int),vs=[.ref l,.int n,.int i]/\H l=some (.lst (ws.map V.str))/\ws.length<=2000/\(∀ w∈ws,WOk w) /\
 ((ws.length:Int)=n->∀ ns:List Nat,ws.map numW=ns.map some->∀ p H',H p=none->Same H H'->H' p=some (.lst (vNs ns))->Q (.ref p) H') /\
 (((ws.length:Int)≠n\/∃ w∈ws,numW w=none)->∀ dx H',Same H H'->H' dx=some (.xd [("at",.int i)])->E (.ref T.BadText) (some dx) H')
abbrev aW:Stmt:=top 25
theorem vk:FnScope ["words","many","at"] ["words","many","at"] (aa aW):=FnScope.of (by kernel_rfl)
theorem gU:NmL (aa aW) "words":=.of (by kernel_rfl)
theorem pj:NmL (aa aW) "many":=.of (by kernel_rfl)
theorem qC:NmC (aa aW) "at":=.of (by kernel_rfl)
theorem fD:NmG (aa aW) "len":=.of (by kernel_rfl)
theorem gh:NmG (aa aW) "BadText":=.of (by kernel_rfl)
theorem vd (T:Txt K mg) (hq:bG (CXe P w)) {f:Addr} {fd:FuncData} (D:Df K mg "read_words" aW ["words","many","at"] f fd) {f_BadText___init__:Addr} {aq:FuncData} (F_BadText___init__:Fun K "__init__" "BadText.__init__" aA f_BadText___init__ aq) (b_BadText:Binds K aq ["self","at"] []) (bR:jA K T.BadText f_BadText___init__) (G_BadText_init:FnOk P w K mg base (CXe P w) 1 f_BadText___init__ aq ["self","at"] (cr T)) {bL:Addr} {dR:FuncData} (br:Df K mg "read_number" aV ["word","at"] bL dR) (G_read_number:FnOk P w K mg base (CXe P w) 3 bL dR ["word","at"] (ik T)):FnOk P w K mg base (CXe P w) 4 f fd ["words","many","at"] (jm T):=by
 refine D.F.okX vk (fun vs H Q E h=>?_) (fun cdv A outer s H vs Q E hr h=>?_)
 . obtain ⟨l,ws,n,i,rfl,_⟩:=h
   rfl
 . obtain ⟨l,ws,n,at_,rfl,hl,wl,wo,k,ke⟩:=h;refine ⟨_,(ah (ba (aF nD (aP bU fD.g T.len cV (ae (pvl 0 gU) ag) (hn:=fD.n) (hdb:=fD.d)) (pvl 1 pj) (aH _)) (aj (pc bR G_BadText_init hq (hr.mono (by decide)) b_BadText rfl rfl sQ gh.g T.iY (ae (pvc 2 qC) ag) (hdb:=gh.d))) aw) (aj (a9 (BI rfl rfl rfl zD rfl (DT (Nc:=["word","at"]) 1 [2] (by decide +kernel) rfl (by decide +kernel) rfl (by show ∀ (y:Str × NameKind),y∈_->y.2=NameKind.free->(aa aW).names.lookup y.1=some NameKind.cell;decide +kernel) rfl (fun _ h=>qI h) (fun i hi=>match i,hi with|0,_=>⟨"at",2,rfl,rfl,rfl,by decide +kernel⟩|i+1,hi=>absurd hi (by show ¬ i+1<1;omega))) (gg (pvl 0 gU)) (fun _ _ _ _=>(cj (i:=0) (show (["word","at"]:List Str).Nodup from by decide +kernel) rfl (Or.inl rfl))) (fun _ _ _ _=>hV) (fun _ _ _ _=>(im G_read_number (hr.mono (by decide)) (by rfl) br.m br.F.kp br.b .nil (ae (pv 0) (ae (pv 1) ag)))))))),?_⟩;rw [show L2.start ["words","many","at"] [V.ref l,V.int n,V.int at_]=[some (V.ref l),some (V.int n),some (V.int at_)] from rfl];walk_at "rd";refine ⟨_,.inl (SqL.of hl),?_⟩;rw [List.length_map];by_cases e:(ws.length:Int)=n
   . rw [if_neg (fun z=>z e)];refine ⟨⟨_,SqL.of hl⟩,fun p np=>?_⟩;refine iE (K:=K) (c:=true) (a:=l) (xs:=ws.map V.str) (fun i ys σ H2=>Same H H2/\H2 p=some (.lst ys)/\(∃ ns:List Nat,ys=vNs ns/\(ws.take i).map numW=ns.map some)/\∃ v,σ=[v,some (V.int at_)]) ⟨Same.new _ np,af,⟨[],rfl,rfl⟩,_,rfl⟩ (fun i ys σ H2 _ ⟨z,_⟩=>SqL.of (z _ _ hl)) ?_ ?_
     . rintro i x ys σ H2 N hN hi ⟨s5,h2,⟨ns,rfl,en⟩,v,rfl⟩;obtain ⟨w,hw,rfl⟩:=List.getElem?_map_some hi;have et:ws.take (i+1)=ws.take i++[w]:=(by rw [List.take_succ,hw];rfl);have hil:i<ws.length:=(List.getElem?_eq_some_iff.mp hw).1;have wm:=List.mem_of_getElem? hw;have nsl:ns.length=i:=by
         have:=congrArg List.length en;rw [List.length_map,List.length_map,List.length_take] at this;omega
       walk_at "rd";refine ⟨w,at_,rfl,(wo w wm).1,(wo w wm).2,fun n hn H3 s6=>⟨s6 _ _ h2,small (by unfold vNs;rw [List.length_map];omega),hN _ _ _ ⟨?_,af,⟨ns++[n],?_,?_⟩,_,rfl⟩⟩,fun hn dx H3 s6 hd=>?_⟩
       . exact fun b o e=>by rw [am (au e np)];exact s6 _ _ (s5 _ _ e)
       . unfold vNs;rw [List.map_append];rfl
       . rw [et,List.map_append,List.map_append,en];show _++[numW w]=_;rw [hn]
         rfl
       . exact ke (.inr ⟨w,wm,hn⟩) dx H3 (s5.trans s6) hd
     . rintro ys σ H2 ⟨s5,h2,⟨ns,rfl,en⟩,v,rfl⟩;rw [List.length_map,List.take_length] at en;exact k e ns en p H2 np s5 h2
   . rw [if_pos e];unfold sT;walk_at "rd";refine ⟨ap (by simp),fun ea ne=>⟨ea,f_BadText___init__,_,rfl,af,bR,fun dx nd nde=>⟨rfl,some dx,?_,?_⟩⟩⟩
     . rw [am (Ne.symm nde),af]
     . exact ke (.inl e) dx _ (tE ne nd nde) (by rw [kf nde,af])
def jf (T:Txt K mg):Sp:=fun vs H Q E=>∃ (z r0:Str) (ao:List Str),vs=[.str z]/\z.length<=60000/\Txt.split z (Str.ofString "\n")=r0::ao/\r0.length<=60000/\(prts r0).length<=2000/\(∀ p∈prts r0,El p) /\
 (∀ ss:List (List Nat),Paired fz (prts r0) ss->ao=[]->∀ l qs H',H l=none->Same H H'->H' l=some (.lst (qs.map V.ref))->Paired (fun q ns=>H' q=some (.tup (vNs ns))) qs ss->Q (.ref l) H') /\
 ((∃ p∈prts r0,(wsp p).length≠3\/∃ w∈wsp p,numW w=none)->∀ dx H',Same H H'->H' dx=some (.xd [("at",.int 1)])->E (.ref T.BadText) (some dx) H') /\
 (∀ ss:List (List Nat),Paired fz (prts r0) ss->ao≠[]->∀ dx H',Same H H'->H' dx=some (.xd [("at",.int 2)])->E (.ref T.BadText) (some dx) H')
abbrev bi:Stmt:=top 22
theorem fS:FnScope ["text","rows","steps"] ["text"] (aa bi):=FnScope.of (by kernel_rfl)
theorem o4:NmL (aa bi) "text":=.of (by kernel_rfl)
theorem dD:NmL (aa bi) "rows":=.of (by kernel_rfl)
theorem eJ:NmL (aa bi) "steps":=.of (by kernel_rfl)
theorem fB:NmG (aa bi) "check_end":=.of (by kernel_rfl)
theorem u9 (T:Txt K mg) (hq:bG (CXe P w)) {f:Addr} {fd:FuncData} (D:Df K mg "read_steps" bi ["text"] f fd) {bD:Addr} {cG:FuncData} (bB:Df K mg "check_end" bo ["rows","last"] bD cG) (G_check_end:FnOk P w K mg base (CXe P w) 3 bD cG ["rows","last"] (dN T)) {bW:Addr} {eC:FuncData} (cH:Df K mg "read_words" aW ["words","many","at"] bW eC) (G_read_words:FnOk P w K mg base (CXe P w) 4 bW eC ["words","many","at"] (jm T)):FnOk P w K mg base (CXe P w) 5 f fd ["text"] (jf T):=by
 refine D.F.okX fS (fun vs H Q E h=>?_) (fun cdv A outer s H vs Q E hr h=>?_)
 . obtain ⟨z,r0,ao,rfl,_⟩:=h
   rfl
 . obtain ⟨z,r0,ao,rfl,zl,er,rl,wl,wo,k,ke1,ke2⟩:=h;refine ⟨_,(ah (aI (i:=1) fS.nd rfl (Or.inl dD.l) (dl PySem.F.plainAttrs_str PySem.F.slot_str_split PySem.F.type_str_split fY (pvl 0 o4) (ae ar ag))) (ah (aI (i:=2) fS.nd rfl (Or.inl eJ.l) (bf ag)) (ah (ba (aF nD (bH cg (pvl 1 dD) ai (fun _ _=>rfl)) ar (aH _)) (aj (pN (i:=2) rfl rfl rfl zD fS.nd rfl eJ.l rfl (g6 (Nc:=["part"]) 1 (by decide +kernel) (by decide +kernel) rfl (by decide +kernel) rfl) (gg (dl PySem.F.plainAttrs_str PySem.F.slot_str_split PySem.F.type_str_split fY (bH cg (pvl 1 dD) ai (fun _ _=>rfl)) (ae ar ag))) (fun _ _ _ _=>(cj (i:=0) (show (["part"]:List Str).Nodup from by decide +kernel) rfl (Or.inl rfl))) (fun _ _ _ _=>hV) (fun _ _ _ _=>(w6 (lP K rfl) (by rfl) T.tuple qQ (im G_read_words (hr.mono (by decide)) (by rfl) cH.m cH.F.kp cH.b .nil (ae (E8 K rfl PySem.F.plainAttrs_str PySem.F.slot_str_split PySem.F.type_str_split fY (pv 0) (ae ar ag)) (ae ai (ae ai ag)))))))) aw) (ah (cz (bC G_check_end (hr.mono (by decide)) fB.g bB.m bB.F.kp bB.b .nil yU (ae (pvl 1 dD) (ae ai ag)) (hdb:=fB.d))) (aj (a9 (pvl 2 eJ))))))),?_⟩;rw [show L2.start ["text","rows","steps"] [V.str z]=[some (V.str z),none,none] from rfl];walk_at "rd";refine ⟨by simp [tyV],_,rfl,_,rfl,rfl,zl,fun r hr1=>?_⟩;rw [er];refine ⟨ap (by simp),fun p hp=>?_⟩;have s1:Same H (upd H r (.lst ((r0::ao).map V.str))):=Same.new _ hr1;have s2:=s1.trans (Same.new (.lst []) hp);have h1:(upd (upd H r (.lst ((r0::ao).map V.str))) p (.lst [])) r=some (.lst (V.str r0::ao.map V.str)):=Same.new _ hp _ _ af;have a0:atI (V.str r0::ao.map V.str) 0=some (V.str r0):=jK (Int.le_refl 0) rfl;refine ⟨r,_,0,V.str r0,rfl,rfl,SqL.of h1,a0,rfl,?_⟩;have end_:∀ (Hx:Hp) (l:Addr) (qs:List Addr) (ss:List (List Nat)),Same H Hx->H l=none->Hx l=some (.lst (qs.map V.ref))->Paired (fun q ns=>Hx q=some (.tup (vNs ns))) qs ss->Hx r=some (.lst (V.str r0::ao.map V.str))->Paired fz (prts r0) ss->dN T [V.ref r,V.int 1] Hx (fun _ H1=>Q (V.ref l) H1) E:=fun Hx l qs ss sx nl el pr hr' en=>by
     refine ⟨r,_,1,rfl,hr',fun le=>k ss en ?_ l qs Hx nl sx el pr,fun lt dx H' s' hd=>ke2 ss en ?_ dx H' (sx.trans s') hd⟩
     . cases ao with
       | nil=>rfl
       | cons _ _=>simp at le;omega
     . rintro rfl;simp at lt
   by_cases c:r0=Str.ofString "."
   . rw [if_neg (fun z=>z (congrArg V.str c))];exact end_ _ p [] [] s2 (s1.free hp) af .nil h1 (by unfold prts;rw [if_pos c];exact .nil)
   . rw [if_pos (fun z=>c (by injection z))];have ew:prts r0=Txt.split r0 (Str.ofString " / "):=(by unfold prts;rw [if_neg c]);refine ⟨r,_,0,V.str r0,rfl,rfl,SqL.of h1,a0,by simp [tyV],_,rfl,_,rfl,rfl,rl,fun q hq=>?_⟩;rw [<- ew];refine ⟨⟨_,SqL.of af⟩,fun l nl=>?_⟩;have s3:=s2.trans (Same.new (.lst ((prts r0).map V.str)) hq);generalize hG:upd (upd (upd H r (.lst ((r0::ao).map V.str))) p (.lst [])) q (.lst ((prts r0).map V.str))=G at s3 nl ⊢;have hr4:G r=some (.lst (V.str r0::ao.map V.str)):=by
       rw [<- hG];exact Same.new _ hq _ _ h1
     have hq4:G q=some (.lst ((prts r0).map V.str)):=by
       rw [<- hG];exact af
     clear hG;refine iE (K:=K) (c:=true) (a:=q) (xs:=(prts r0).map V.str) (fun i ys σ H2=>Same G H2/\H2 l=some (.lst ys)/\(∃ (qs:List Addr) (ss:List (List Nat)),ys=qs.map V.ref/\qs.length=i/\Paired (fun q ns=>H2 q=some (.tup (vNs ns))) qs ss/\Paired fz ((prts r0).take i) ss)/\∃ v,σ=[v]) ⟨Same.new _ nl,af,⟨[],[],rfl,rfl,.nil,.nil⟩,_,rfl⟩ (fun i ys σ H2 _ ⟨z,_⟩=>SqL.of (z _ _ hq4)) ?_ ?_
     . rintro i x ys σ H2 N hN hi ⟨s5,h2,⟨qs,ss,rfl,ql,pr,tl⟩,v,rfl⟩;obtain ⟨w,hw,rfl⟩:=List.getElem?_map_some hi;have et:(prts r0).take (i+1)=(prts r0).take i++[w]:=(by rw [List.take_succ,hw];rfl);have hil:i<(prts r0).length:=(List.getElem?_eq_some_iff.mp hw).1;have wm:=List.mem_of_getElem? hw;obtain ⟨o1,o2,o3⟩:=wo w wm;walk_at "rd";refine ⟨by simp [tyV],_,rfl,_,rfl,rfl,o1,fun lw nlw=>?_⟩;have s6:=Same.new (.lst ((wsp w).map V.str)) nlw;refine ⟨lw,wsp w,3,1,rfl,af,o2,o3,fun w3 ns en pn H4 npn s7 epn=>⟨pn,rfl,vNs ns,.inl ⟨SqL.of epn,fun pt npt=>?_⟩⟩,fun bad dx H4 s7 hd=>?_⟩
       . have s67:=s6.trans s7;have s8:=Same.new (.tup (vNs ns)) npt;have s68:=s67.trans s8;have nptl:pt≠l:=fun z=>by rw [z] at npt;rw [s67 _ _ h2] at npt;cases npt
         have n3:ns.length=3:=by
           have:=congrArg List.length en;rw [List.length_map,List.length_map] at this;omega
         refine ⟨s68 _ _ h2,small (by rw [List.length_map];omega),hN _ _ _ ⟨?_,af,⟨qs++[pt],ss++[ns],by rw [List.map_append];rfl,by rw [List.length_append,ql];rfl,?_,?_⟩,_,rfl⟩⟩
         . exact fun b o e=>by rw [am (au e nl)];exact s68 _ _ (s5 _ _ e)
         . refine mh (by rw [am nptl];exact af) (Paired.imp' (fun b m hb=>?_) pr);have nb:b≠l:=zo hb h2 (by intro z;cases z);rw [am nb];exact s68 _ _ hb
         . rw [et];exact mh ⟨en,n3⟩ tl
       . refine ke1 ⟨w,wm,?_⟩ dx H4 ((s3.trans s5).trans (s6.trans s7)) hd;rcases bad with b|b
         . exact .inl (by omega)
         . exact .inr b
     . rintro ys σ H2 ⟨s5,h2,⟨qs,ss,rfl,ql,pr,tl⟩,v,rfl⟩;rw [List.length_map,List.take_length] at tl;exact end_ H2 l qs ss (s3.trans s5) (s3.free nl) h2 pr (s5 _ _ hr4) tl
def pY (T:Txt K mg):Sp:=fun vs H Q E=>False
abbrev bh:Stmt:=top 24
theorem xF:FnScope ["rows","at","head","many","words"] ["rows","at","head","many"] (aa bh):=FnScope.of (by kernel_rfl)
theorem BT:NmL (aa bh) "rows":=.of (by kernel_rfl)
theorem D3:NmL (aa bh) "at":=.of (by kernel_rfl)
theorem B8:NmL (aa bh) "head":=.of (by kernel_rfl)
theorem BD:NmL (aa bh) "many":=.of (by kernel_rfl)
theorem Bc:NmL (aa bh) "words":=.of (by kernel_rfl)
theorem C9:NmG (aa bh) "len":=.of (by kernel_rfl)
theorem zH:NmG (aa bh) "BadText":=.of (by kernel_rfl)
theorem xg:NmG (aa bh) "read_words":=.of (by kernel_rfl)
theorem xb (T:Txt K mg) (hq:bG (CXe P w)) {f:Addr} {fd:FuncData} (D:Df K mg "read_row" bh ["rows","at","head","many"] f fd) {f_BadText___init__:Addr} {aq:FuncData} (F_BadText___init__:Fun K "__init__" "BadText.__init__" aA f_BadText___init__ aq) (b_BadText:Binds K aq ["self","at"] []) (bR:jA K T.BadText f_BadText___init__) (G_BadText_init:FnOk P w K mg base (CXe P w) 1 f_BadText___init__ aq ["self","at"] (cr T)) {bW:Addr} {eC:FuncData} (cH:Df K mg "read_words" aW ["words","many","at"] bW eC) (G_read_words:FnOk P w K mg base (CXe P w) 4 bW eC ["words","many","at"] (jm T)):FnOk P w K mg base (CXe P w) 5 f fd ["rows","at","head","many"] (pY T):=by
 refine D.F.okX xF (fun vs H Q E h=>?_) (fun cdv A outer s H vs Q E hr h=>?_)
 . exact h.elim
 . exact h.elim
def pU (T:Txt K mg):Sp:=fun vs H Q E=>False
abbrev aY:Stmt:=top 23
theorem xt:FnScope ["text","rows","many","last","roads"] ["text"] (aa aY):=FnScope.of (by kernel_rfl)
theorem Cu:NmL (aa aY) "text":=.of (by kernel_rfl)
theorem BS:NmC (aa aY) "rows":=.of (by kernel_rfl)
theorem Bd:NmL (aa aY) "many":=.of (by kernel_rfl)
theorem CI:NmL (aa aY) "last":=.of (by kernel_rfl)
theorem Ba:NmL (aa aY) "roads":=.of (by kernel_rfl)
theorem y9:NmG (aa aY) "read_row":=.of (by kernel_rfl)
theorem wT:NmG (aa aY) "MOST_PLACES":=.of (by kernel_rfl)
theorem Bb:NmG (aa aY) "range":=.of (by kernel_rfl)
theorem xY:NmG (aa aY) "check_end":=.of (by kernel_rfl)
theorem Dg:NmG (aa aY) "Web":=.of (by kernel_rfl)
theorem xu (T:Txt K mg) (hq:bG (CXe P w)) {f:Addr} {fd:FuncData} (D:Df K mg "read_web" aY ["text"] f fd) {f_Web___init__:Addr} {gn:FuncData} (F_Web___init__:Fun K "__init__" "Web.__init__" ay f_Web___init__ gn) (b_Web:Binds K gn ["self","many","roads"] []) (CY:Mk K T.Web f_Web___init__) (G_Web_init:FnOk P w K mg base (CXe P w) 3 f_Web___init__ gn ["self","many","roads"] (gu T)) {bD:Addr} {cG:FuncData} (bB:Df K mg "check_end" bo ["rows","last"] bD cG) (G_check_end:FnOk P w K mg base (CXe P w) 3 bD cG ["rows","last"] (dN T)) {ek:Addr} {p7:FuncData} (m7:Df K mg "read_row" bh ["rows","at","head","many"] ek p7) (G_read_row:FnOk P w K mg base (CXe P w) 5 ek p7 ["rows","at","head","many"] (pY T)):FnOk P w K mg base (CXe P w) 6 f fd ["text"] (pU T):=by
 refine D.F.okX xt (fun vs H Q E h=>?_) (fun cdv A outer s H vs Q E hr h=>?_)
 . exact h.elim
 . exact h.elim
theorem fm {K:PySem.W.Frag} {C C' Tl:Addr} (xe:XErr K Tl C) (x':XErr K Tl C') (ne:C'≠Tl) (n:C'≠C):zF K C (.ref C') false:=by
 refine ⟨x'.x,?_⟩;rw [xe.mr,decide_eq_false ne,Bool.or_false,decide_eq_false n]
def rX (T:Txt K mg):Sp:=fun vs H Q _=>∃ (pk:Int) (z r0:Str) (ao:List Str) (good:Prop),vs=[.int pk,.str z]/\z.length<=60000/\Txt.split z (Str.ofString "\n")=r0::ao/\Rw r0/\((pk=0/\good=r6 r0)\/(pk=1/\good=rf r0))/\∀ fv H',Same H H'->Fnd good ao fv->Q fv H'
abbrev aE:Stmt:=top 31
theorem ei:FnScope ["pick","text","row","e","others"] ["pick","text"] (aa aE):=FnScope.of (by kernel_rfl)
theorem k7:NmL (aa aE) "pick":=.of (by kernel_rfl)
theorem gp:NmL (aa aE) "text":=.of (by kernel_rfl)
theorem d2:NmL (aa aE) "row":=.of (by kernel_rfl)
theorem cJ:NmL (aa aE) "e":=.of (by kernel_rfl)
theorem jx:NmL (aa aE) "others":=.of (by kernel_rfl)
theorem fA:NmG (aa aE) "read_numbers":=.of (by kernel_rfl)
theorem f8:NmG (aa aE) "read_steps":=.of (by kernel_rfl)
theorem gR:NmG (aa aE) "read_web":=.of (by kernel_rfl)
theorem gw:NmG (aa aE) "TollError":=.of (by kernel_rfl)
theorem ak:NmG (aa aE) "isinstance":=.of (by kernel_rfl)
theorem jv:NmG (aa aE) "BadWeb":=.of (by kernel_rfl)
theorem iQ:NmG (aa aE) "BadStep":=.of (by kernel_rfl)
theorem mE:NmG (aa aE) "BadLaying":=.of (by kernel_rfl)
theorem iT:NmG (aa aE) "NoPlace":=.of (by kernel_rfl)
theorem ja:NmG (aa aE) "BadText":=.of (by kernel_rfl)
theorem bI:NmG (aa aE) "ValueError":=.of (by kernel_rfl)
theorem yP (T:Txt K mg) (hq:bG (CXe P w)) {f:Addr} {fd:FuncData} (D:Df K mg "_law_bad" aE ["pick","text"] f fd) {bE:Addr} {dB:FuncData} (bj:Df K mg "read_numbers" aQ ["text"] bE dB) (G_read_numbers:FnOk P w K mg base (CXe P w) 4 bE dB ["text"] (gF T)) {bT:Addr} {eB:FuncData} (bK:Df K mg "read_steps" bi ["text"] bT eB) (G_read_steps:FnOk P w K mg base (CXe P w) 5 bT eB ["text"] (jf T)) {eh:Addr} {p9:FuncData} (fq:Df K mg "read_web" aY ["text"] eh p9) (G_read_web:FnOk P w K mg base (CXe P w) 6 eh p9 ["text"] (pU T)):FnOk P w K mg base (CXe P w) 7 f fd ["pick","text"] (rX T):=by
 refine D.F.okC ei (fun vs H Q E h=>?_) (fun cdv A outer s H vs Q E hr h=>?_)
 . obtain ⟨pk,z,r0,ao,good,rfl,_⟩:=h
   rfl
 . obtain ⟨pk,z,r0,ao,good,rfl,zl,er,rw0,hp,k⟩:=h;refine ⟨_,(ah (aI (i:=2) ei.nd rfl (Or.inl d2.l) jb) (ah (EF rfl rfl rfl (jS (Am (aF cQ (pvl 0 k7) ai (aH _)) (jS (qx (im G_read_numbers (hr.mono (by decide)) fA.g bj.m bj.F.kp bj.b .nil (ae (pvl 1 gp) ag) (hdb:=fA.d)))) (jS (Am (aF cQ (pvl 0 k7) ai (aH _)) (jS (qx (im G_read_steps (hr.mono (by decide)) f8.g bK.m bK.F.kp bK.b .nil (ae (pvl 1 gp) ag) (hdb:=f8.d)))) (jS (qx (im G_read_web (hr.mono (by decide)) gR.g fq.m fq.F.kp fq.b .nil (ae (pvl 1 gp) ag) (hdb:=gR.d)))))))) (Fm (i:=3) T.xj.x gw.g T.pW ei.nd rfl cJ.l (fun _=>(ah (aI (i:=2) ei.nd rfl (Or.inl d2.l) ar) (ah (aI (i:=4) ei.nd rfl (Or.inl jx.l) (aP (rh K rfl) ak.g T.isinstance du (ae (pvl 3 cJ) (ae (qU (ae (d0 (v:=.ref T.BadWeb) jv.g T.vK rfl) (ae (d0 (v:=.ref T.BadStep) iQ.g T.uz rfl) (ae (d0 (v:=.ref T.BadLaying) mE.g T.wY rfl) (ae (d0 (v:=.ref T.NoPlace) iT.g T.ud rfl) ag))))) ag)) (hn:=ak.n) (hdb:=ak.d))) (ah (ba (PW.pt (lO (fQ (aP (kU K rfl) ak.g T.isinstance du (ae (pvl 3 cJ) (ae (d0 (v:=.ref T.BadText) ja.g T.iY rfl) ag)) (hn:=ak.n) (hdb:=ak.d))) (lO (fQ (aP (kU K rfl) ak.g T.isinstance du (ae (pvl 3 cJ) (ae (ya (v:=.ty "ValueError") bI.g T.ValueError nP rfl (hn:=bI.n) (hd:=bI.d)) ag)) (hn:=ak.n) (hdb:=ak.d))) (pJ (fi (zU K rfl (pvl 4 jx) (fun _=>rfl))))))) (aj (aI (i:=2) ei.nd rfl (Or.inl d2.l) (DI K rfl (pvl 3 cJ) rfl))) aw) (aj (ba (PW.pt (lO (fQ (aP (kU K rfl) ak.g T.isinstance du (ae (pvl 3 cJ) (ae (d0 (v:=.ref T.BadWeb) jv.g T.vK rfl) ag)) (hn:=ak.n) (hdb:=ak.d))) (lO (fQ (aP (kU K rfl) ak.g T.isinstance du (ae (pvl 3 cJ) (ae (ya (v:=.ty "ValueError") bI.g T.ValueError nP rfl (hn:=bI.n) (hd:=bI.d)) ag)) (hn:=ak.n) (hdb:=ak.d))) (pJ (fi (fQ (aP (rh K rfl) ak.g T.isinstance du (ae (pvl 3 cJ) (ae (qU (ae (d0 (v:=.ref T.BadText) ja.g T.iY rfl) (ae (d0 (v:=.ref T.BadStep) iQ.g T.uz rfl) (ae (d0 (v:=.ref T.NoPlace) iT.g T.ud rfl) ag)))) ag)) (hn:=ak.n) (hdb:=ak.d)))))))) (aj (aI (i:=2) ei.nd rfl (Or.inl d2.l) ar)) aw)))))) EG (hdb:=gw.d))) (aj (a9 (pvl 2 d2))))),?_⟩;rw [show L2.start ["pick","text","row","e","others"] [V.int pk,V.str z]=[some (V.int pk),some (V.str z),none,none,none] from rfl];walk_at "rd";have mM:T.BadWeb≠T.TollError:=(gy T.ndx 1 0 rfl rfl (by decide));have uv:T.BadStep≠T.TollError:=(gy T.ndx 4 0 rfl rfl (by decide));have pX:T.BadLaying≠T.TollError:=(gy T.ndx 3 0 rfl rfl (by decide));have uG:T.NoPlace≠T.TollError:=(gy T.ndx 2 0 rfl rfl (by decide));have uP:T.BadText≠T.TollError:=(gy T.ndx 5 0 rfl rfl (by decide));have mU:T.BadWeb≠T.BadText:=(gy T.ndx 1 5 rfl rfl (by decide));have uC:T.BadStep≠T.BadText:=(gy T.ndx 4 5 rfl rfl (by decide));have pP:T.BadLaying≠T.BadText:=(gy T.ndx 3 5 rfl rfl (by decide));have ua:T.NoPlace≠T.BadText:=(gy T.ndx 2 5 rfl rfl (by decide));have xe:=T.zN;rcases hp with ⟨rfl,rfl⟩|⟨rfl,rfl⟩
   . rw [if_pos rfl];obtain ⟨h1,h2,h3⟩:=rw0.wrds;refine ⟨z,r0,ao,rfl,zl,er,h1,h2,h3,fun ns en er l H' _ s' _=>k _ H' s' (.inl ⟨⟨ns,en⟩,er,rfl⟩),fun bad dx H' s' hd=>?_,fun al ne dx H' s' hd=>?_⟩
     all_goals
       refine ⟨T.BadText,rfl,true,by rw [xe.mr];simp,?_⟩;rw [if_pos rfl];intro ea nea;have s1:=Same.new (ExO ea (.ref T.BadText) (some dx)) nea;have he:upd H' ea (ExO ea (.ref T.BadText) (some dx)) ea=some (ExO ea (.ref T.BadText) (some dx)):=af;have hd1:=s1 _ _ hd;have s01:=s'.trans s1;generalize upd H' ea (ExO ea (.ref T.BadText) (some dx))=H1 at he hd1 s01 ⊢;refine ⟨ap (by simp),fun p2 n2=>?_⟩;have s2:=Same.new (.tup [V.ref T.BadWeb,V.ref T.BadStep,V.ref T.BadLaying,V.ref T.NoPlace]) n2;have e2:upd H1 p2 (.tup [V.ref T.BadWeb,V.ref T.BadStep,V.ref T.BadLaying,V.ref T.NoPlace]) p2=_:=af;have s02:=s01.trans s2;have he2:=s2 _ _ he;have hd2:=s2 _ _ hd1;generalize upd H1 p2 (.tup [V.ref T.BadWeb,V.ref T.BadStep,V.ref T.BadLaying,V.ref T.NoPlace])=H2 at e2 s02 he2 hd2 ⊢;refine ⟨ea,_,some dx,p2,_,[false,false,false,false],rfl,he2,⟨_,hd2⟩,xe.x,e2,.cons (fm xe T.mn mM mU) (.cons (fm xe T.uh uv uC) (.cons (fm xe T.pO pX pP) (.cons (fm xe T.uH uG ua) .nil))),?_⟩;refine pz he2 ⟨_,hd2⟩ xe xe uP ⟨_,rfl,?_⟩;rw [if_pos (decide_eq_true rfl)];refine xJ he2 ⟨_,hd2⟩ xe ⟨_,rfl,?_⟩;rw [if_pos rfl];refine ⟨false,rfl,?_⟩;rw [if_pos rfl];refine ⟨ea,T.BadText,dx,_,_,rfl,he2,xe.x,T.uw,hd2,rfl,pz he2 ⟨_,hd2⟩ xe T.mn mM ⟨_,rfl,?_⟩⟩;rw [if_neg (by rw [decide_eq_true_eq];exact mU)];refine k _ _ s02 ?_
     . exact .inr (.inl ⟨qu bad,rfl⟩)
     . exact .inr (.inr ⟨pG al,ne,rfl⟩)
   . rw [if_neg (by decide),if_pos rfl];obtain ⟨h1,h2,h3⟩:=rw0.prts;refine ⟨z,r0,ao,rfl,zl,er,h1,h2,h3,fun ss pr er l qs H' _ s' _ _=>k _ H' s' (.inl ⟨⟨ss,pr⟩,er,rfl⟩),fun bad dx H' s' hd=>?_,fun ss pr ne dx H' s' hd=>?_⟩
     all_goals
       refine ⟨T.BadText,rfl,true,by rw [xe.mr];simp,?_⟩;rw [if_pos rfl];intro ea nea;have s1:=Same.new (ExO ea (.ref T.BadText) (some dx)) nea;have he:upd H' ea (ExO ea (.ref T.BadText) (some dx)) ea=some (ExO ea (.ref T.BadText) (some dx)):=af;have hd1:=s1 _ _ hd;have s01:=s'.trans s1;generalize upd H' ea (ExO ea (.ref T.BadText) (some dx))=H1 at he hd1 s01 ⊢;refine ⟨ap (by simp),fun p2 n2=>?_⟩;have s2:=Same.new (.tup [V.ref T.BadWeb,V.ref T.BadStep,V.ref T.BadLaying,V.ref T.NoPlace]) n2;have e2:upd H1 p2 (.tup [V.ref T.BadWeb,V.ref T.BadStep,V.ref T.BadLaying,V.ref T.NoPlace]) p2=_:=af;have s02:=s01.trans s2;have he2:=s2 _ _ he;have hd2:=s2 _ _ hd1;generalize upd H1 p2 (.tup [V.ref T.BadWeb,V.ref T.BadStep,V.ref T.BadLaying,V.ref T.NoPlace])=H2 at e2 s02 he2 hd2 ⊢;refine ⟨ea,_,some dx,p2,_,[false,false,false,false],rfl,he2,⟨_,hd2⟩,xe.x,e2,.cons (fm xe T.mn mM mU) (.cons (fm xe T.uh uv uC) (.cons (fm xe T.pO pX pP) (.cons (fm xe T.uH uG ua) .nil))),?_⟩;refine pz he2 ⟨_,hd2⟩ xe xe uP ⟨_,rfl,?_⟩;rw [if_pos (decide_eq_true rfl)];refine xJ he2 ⟨_,hd2⟩ xe ⟨_,rfl,?_⟩;rw [if_pos rfl];refine ⟨false,rfl,?_⟩;rw [if_pos rfl];refine ⟨ea,T.BadText,dx,_,_,rfl,he2,xe.x,T.uw,hd2,rfl,pz he2 ⟨_,hd2⟩ xe T.mn mM ⟨_,rfl,?_⟩⟩;rw [if_neg (by rw [decide_eq_true_eq];exact mU)];refine k _ _ s02 ?_
     . exact .inr (.inl ⟨wa bad,rfl⟩)
     . exact .inr (.inr ⟨⟨ss,pr⟩,ne,rfl⟩)
def fT (T:Txt K mg):Sp:=fun vs H Q _=>∃ w:Str,vs=[.str w]/\WOk w/\(∀ n,numW w=some n->∀ H',Same H H'->Q (.int (n:Int)) H')/\(numW w=none->∀ H',Same H H'->Q .non H')
abbrev aM:Stmt:=top 30
theorem ee:FnScope ["word","number","sign"] ["word"] (aa aM):=FnScope.of (by kernel_rfl)
theorem cM:NmL (aa aM) "word":=.of (by kernel_rfl)
theorem cq:NmL (aa aM) "number":=.of (by kernel_rfl)
theorem d3:NmL (aa aM) "sign":=.of (by kernel_rfl)
theorem bO:NmG (aa aM) "len":=.of (by kernel_rfl)
theorem qD (T:Txt K mg) (hq:bG (CXe P w)) {f:Addr} {fd:FuncData} (D:Df K mg "_law_number_in" aM ["word"] f fd):FnOk P w K mg base (CXe P w) 1 f fd ["word"] (fT T):=by
 refine D.F.okC ee (fun vs H Q E h=>?_) (fun cdv A outer s H vs Q E hr h=>?_)
 . obtain ⟨w,rfl,_⟩:=h
   rfl
 . obtain ⟨w,rfl,⟨as,wl⟩,k,kn⟩:=h;refine ⟨_,(ah (ba (PW.pt (r9 (fi (nz jD jD ai (aP eZ bO.g T.len cV (ae (pvl 0 cM) ag) (hn:=bO.n) (hdb:=bO.d)) ai)) (oN (PW.pt (lO (aF cQ (bH wN (pvl 0 cM) ai (fun _ _=>rfl)) ar (aH _)) (pJ (aF C4 (aP eZ bO.g T.len cV (ae (pvl 0 cM) ag) (hn:=bO.n) (hdb:=bO.d)) ai (aH _)))))))) (aj (a9 jb)) aw) (ah (aI (i:=1) ee.nd rfl (Or.inl cq.l) ai) (ah (gr PassesOwn.never rfl (AD (pvl 0 cM)) (cj (i:=2) ee.nd rfl (Or.inl d3.l)) (ah (ba (aF wq (pvl 2 d3) ar (by with_unfolding_all rfl)) (aj (a9 jb)) aw) (aj (aI (i:=1) ee.nd rfl (Or.inl cq.l) (ax iK (ax zT (pvl 1 cq) ai) (dl PySem.F.plainAttrs_str PySem.F.slot_str_index PySem.F.type_str_index zP ar (ae (pvl 2 d3) ag))))))) (aj (a9 (pvl 1 cq)))))),?_⟩;rw [show L2.start ["word","number","sign"] [V.str w]=[some (V.str w),none,none] from rfl];refine dn fun N1 h1=>?_;walk_at "rd";have ln:w.length=w.cps.toList.length:=bq w;have wl':w.length<=sizeLine:=Nat.le_trans wl (by decide);refine ⟨w,rfl,wl',?_⟩;rw [ln];by_cases l1:(1:Int)<=(w.cps.toList.length:Int)
   . rw [if_pos l1];by_cases l60:(w.cps.toList.length:Int)<=60
     . rw [if_neg (fun z=>z l60)];have go:(w.cps.toList=[48]\/w.cps.toList.head?≠some 48)->N1 [some (V.str w),none,none] H:=fun ld=>by
         refine h1 _ _ (dn fun N2 h2=>?_);walk_at "rd";refine h2 _ _ (dn fun N3 h3=>?_);walk_at "rd";refine ⟨w,rfl,as,?_⟩;refine BJ (fun i σ H2=>H2=H/\(∀ c∈w.cps.toList.take i,48<=c/\c<=57)/\∃ v,σ=[some (V.str w),some (V.int (nv (w.cps.toList.take i):Nat)),v]) ⟨rfl,fun c hc=>(by cases hc),_,rfl⟩ ?_ ?_
         . rintro i c σ H2 N hN hi ⟨rfl,al,v,rfl⟩;have et:w.cps.toList.take (i+1)=w.cps.toList.take i++[c]:=(by rw [List.take_succ,hi];rfl);walk_at "rd";refine ⟨_,rfl,_,rfl,?_⟩;rw [uK];by_cases hc:48<=c/\c<=57
           . rw [if_neg (by rw [decide_eq_true hc];decide)];have o:=Ey (c - 48) (by omega);rw [show 48+(c - 48)=c by omega] at o;refine ⟨?_,by simp [tyV],_,rfl,_,rfl,_,_,o,hN _ _ ⟨rfl,?_,some (V.str ⟨#[c]⟩),?_⟩⟩
             . exact .inr ⟨by decide,by decide⟩
             . rw [et];intro y hy;rcases List.mem_append.mp hy with h|h
               . exact al y h
               . rw [List.mem_singleton.mp h];exact hc
             . rw [et,yd,Int.natCast_add,Int.natCast_mul]
               rfl
           . rw [if_pos (decide_eq_false hc)];exact kn (iL.mpr fun f=>hc (f.all c (List.mem_of_getElem? hi))) _ (Same.refl _)
         . rintro σ H2 ⟨rfl,al,v,rfl⟩;rw [List.take_length] at al ⊢;refine h3 _ _ ?_;walk_at "rd";have f:Fig w.cps.toList:=⟨by omega,by omega,al,ld⟩;exact k _ (oP.mpr ⟨f.fs.2,f.fs.1⟩) _ (Same.refl _)
       obtain ⟨c,r,ec⟩:∃ c r,w.cps.toList=c::r:=by
         cases hh:w.cps.toList with
         | nil=>rw [hh] at l1;exact absurd l1 (by decide)
         | cons c r=>exact ⟨c,r,rfl⟩
       refine ixS (i:=0) (by omega) (by rw [ec];rfl) ⟨rfl,?_⟩;by_cases c48:c=48
       . rw [if_pos (show V.str ⟨#[c]⟩=V.str (Str.ofString "0") by rw [c48];rfl)];refine ⟨w,rfl,wl',?_⟩;rw [ln];by_cases l2:(1:Int)<(w.cps.toList.length:Int)
         . rw [if_pos l2];refine kn (iL.mpr fun f=>?_) H (Same.refl _);rcases f.lead with z|z
           . rw [z] at l2;exact absurd l2 (by decide)
           . exact z (by rw [ec,c48];rfl)
         . rw [if_neg l2];refine go (.inl ?_);rw [ec,List.length_cons] at l2;have:r=[]:=List.length_eq_zero_iff.mp (by omega);rw [ec,c48,this]
       . rw [if_neg (fun z=>c48 (by injection z with z;exact (List.cons.inj (show [c]=[48] from congrArg (fun s:Str=>s.cps.toList) z)).1))];exact go (.inr (by rw [ec];exact fun z=>c48 (by injection z)))
     . rw [if_pos l60];exact kn (iL.mpr fun f=>absurd f.len60 (by omega)) H (Same.refl _)
   . rw [if_neg l1];exact kn (iL.mpr fun f=>absurd f.len1 (by omega)) H (Same.refl _)
def iW (T:Txt K mg):Sp:=fun vs H Q _=>∃ (r0:Str),vs=[.str r0]/\r0.length<=60000/\(wrds r0).length<=2000/\(∀ w∈wrds r0,WOk w) /\
 (∀ ns:List Nat,(wrds r0).map numW=ns.map some->∀ l H',H l=none->Same H H'->H' l=some (.lst (vNs ns))->Q (.ref l) H')/\((∃ w∈wrds r0,numW w=none)->∀ H',Same H H'->Q .non H')
abbrev a8:Stmt:=top 33
theorem iR:FnScope ["row","numbers"] ["row"] (aa a8):=FnScope.of (by kernel_rfl)
theorem fL:NmL (aa a8) "row":=.of (by kernel_rfl)
theorem cT:NmL (aa a8) "numbers":=.of (by kernel_rfl)
theorem om (T:Txt K mg) (hq:bG (CXe P w)) {f:Addr} {fd:FuncData} (D:Df K mg "_law_numbers_due" a8 ["row"] f fd) {bn:Addr} {db:FuncData} (be:Df K mg "_law_number_in" aM ["word"] bn db) (G_law_number_in:FnOk P w K mg base (CXe P w) 1 bn db ["word"] (fT T)):FnOk P w K mg base (CXe P w) 2 f fd ["row"] (iW T):=by
 refine D.F.okC iR (fun vs H Q E h=>?_) (fun cdv A outer s H vs Q E hr h=>?_)
 . obtain ⟨r0,rfl,_⟩:=h
   rfl
 . obtain ⟨r0,rfl,rl,wl,wo,k,kn⟩:=h;refine ⟨_,(ah (ba (aF cQ (pvl 0 fL) ar (aH _)) (aj (a9 (bf ag))) aw) (ah (rF (i:=1) iR.nd rfl cT.l rfl (g6 (Nc:=["word"]) 1 (by decide +kernel) (by decide +kernel) rfl (by decide +kernel) rfl) (gg (dl PySem.F.plainAttrs_str PySem.F.slot_str_split PySem.F.type_str_split fY (pvl 0 fL) (ae ar ag))) (fun _ _ _ _=>(cj (i:=0) (show (["word"]:List Str).Nodup from by decide +kernel) rfl (Or.inl rfl))) (fun _ _ _ _=>hV) (fun _ _ _ _=>(bC G_law_number_in (hr.mono (by decide)) (by rfl) be.m be.F.kp be.b .nil (dj hq) (ae (pv 0) ag)))) (ah (ba (aF uE jb (pvl 1 cT) (by with_unfolding_all rfl)) (aj (a9 jb)) aw) (aj (a9 (pvl 1 cT)))))),?_⟩;rw [show L2.start ["row","numbers"] [V.str r0]=[some (V.str r0),none] from rfl];refine dn fun N1 h1=>?_;walk_at "rd";by_cases c:r0=Str.ofString ""
   . rw [if_pos (congrArg V.str c)];exact ⟨ap (by simp),fun p np=>k [] (by unfold wrds;rw [if_pos c];rfl) p _ np (Same.new _ np) af⟩
   . rw [if_neg (fun z=>c (by injection z))];have ew:wrds r0=Txt.split r0 (Str.ofString " "):=(by unfold wrds;rw [if_neg c]);refine h1 _ _ ?_;walk_at "rd";refine ⟨by simp [tyV],_,rfl,_,rfl,rfl,rl,fun q hq=>?_⟩;rw [<- ew];refine ⟨⟨_,SqL.of af⟩,fun l nl=>?_⟩;have s3:=Same.new (.lst ((wrds r0).map V.str)) hq;have hq4:upd H q (.lst ((wrds r0).map V.str)) q=some (.lst ((wrds r0).map V.str)):=af;generalize upd H q (.lst ((wrds r0).map V.str))=G at s3 nl hq4 ⊢;refine iE (K:=K) (c:=true) (a:=q) (xs:=(wrds r0).map V.str) (fun i ys σ H2=>Same G H2/\H2 l=some (.lst ys)/\ys=((wrds r0).take i).map (fun w=>eY (numW w))/\∃ v,σ=[v]) ⟨Same.new _ nl,af,rfl,_,rfl⟩ (fun i ys σ H2 _ ⟨z,_⟩=>SqL.of (z _ _ hq4)) ?_ ?_
     . rintro i x ys σ H2 N hN hi ⟨s5,h2,rfl,v,rfl⟩;obtain ⟨w,hw,rfl⟩:=List.getElem?_map_some hi;have et:(wrds r0).take (i+1)=(wrds r0).take i++[w]:=(by rw [List.take_succ,hw];rfl);have hil:i<(wrds r0).length:=(List.getElem?_eq_some_iff.mp hw).1;have wm:=List.mem_of_getElem? hw;walk_at "rd";have nx:∀ (x:V) (H3:Hp),x=eY (numW w)->Same H2 H3->H3 l=some (.lst (((wrds r0).take i).map (fun w=>eY (numW w))))/\(((wrds r0).take i).map (fun w=>eY (numW w))).length<sizeLine/\N (((wrds r0).take i).map (fun w=>eY (numW w))++[x]) [some (V.str w)] (upd H3 l (.lst (((wrds r0).take i).map (fun w=>eY (numW w))++[x]))):=fun x H3 ex s6=>by
         refine ⟨s6 _ _ h2,small (by rw [List.length_map,List.length_take];omega),hN _ _ _ ⟨?_,af,?_,_,rfl⟩⟩
         . exact fun b o e=>by rw [am (au e nl)];exact s6 _ _ (s5 _ _ e)
         . rw [et,List.map_append,ex]
           rfl
       exact ⟨w,rfl,wo w wm,fun n hn H3 s6=>nx _ H3 (by rw [hn];rfl) s6,fun hn H3 s6=>nx _ H3 (by rw [hn];rfl) s6⟩
     . rintro ys σ H2 ⟨s5,h2,rfl,v,rfl⟩;rw [List.length_map,List.take_length] at h2;refine ⟨l,_,rfl,.inl (SqL.of h2),rfl,?_,?_⟩
       . rw [List.all_eq_true];intro x hx;obtain ⟨w,hw,rfl⟩:=List.mem_map.mp hx;cases numW w <;> rfl
       by_cases bad:∃ w∈wrds r0,numW w=none
       . have e:inV V.non ((wrds r0).map (fun w=>eY (numW w)))=true:=by
           unfold inV;rw [List.any_eq_true];obtain ⟨w,hw,z⟩:=bad;exact ⟨_,List.mem_map.mpr ⟨w,hw,rfl⟩,by rw [z];rfl⟩
         refine ⟨_,rfl,?_⟩;rw [e,if_pos (by decide)];exact kn bad H2 (s3.trans s5)
       . have e:inV V.non ((wrds r0).map (fun w=>eY (numW w)))=false:=by
           rw [<- Bool.not_eq_true];unfold inV;rw [List.any_eq_true];rintro ⟨x,hx,hz⟩;obtain ⟨w,hw,rfl⟩:=List.mem_map.mp hx;cases hn:numW w with
           | none=>exact bad ⟨w,hw,hn⟩
           | some n=>rw [hn] at hz;cases hz
         obtain ⟨ns,en⟩:=pG (ws:=wrds r0) (fun w hw z=>bad ⟨w,hw,z⟩);refine ⟨_,rfl,?_⟩;rw [e,if_neg (by decide)];refine k ns en l H2 (s3.free nl) (s3.trans s5) ?_;rw [h2,tD en]
def jX (T:Txt K mg):Sp:=fun vs H Q _=>∃ (r0:Str),vs=[.str r0]/\r0.length<=60000/\(wsp r0).length<=2000/\(∀ w∈wsp r0,WOk w) /\
 (∀ ss:List (List Nat),Ste ss->r0=stx ss->∀ l qs H',H l=none->Same H H'->H' l=some (.lst (qs.map V.ref))->Paired (fun q ns=>H' q=some (.tup (vNs ns))) qs ss->Q (.ref l) H')/\((¬ ∃ ss:List (List Nat),Ste ss/\r0=stx ss)->∀ H',Same H H'->Q .non H')
abbrev aB:Stmt:=top 34
theorem dg:FnScope ["row","words","steps","k","three"] ["row"] (aa aB):=FnScope.of (by kernel_rfl)
theorem gM:NmL (aa aB) "row":=.of (by kernel_rfl)
theorem bF:NmL (aa aB) "words":=.of (by kernel_rfl)
theorem dH:NmL (aa aB) "steps":=.of (by kernel_rfl)
theorem bX:NmL (aa aB) "k":=.of (by kernel_rfl)
theorem bA:NmL (aa aB) "three":=.of (by kernel_rfl)
theorem k9:NmG (aa aB) "range":=.of (by kernel_rfl)
theorem av:NmG (aa aB) "len":=.of (by kernel_rfl)
theorem qH (T:Txt K mg) (hq:bG (CXe P w)) {f:Addr} {fd:FuncData} (D:Df K mg "_law_steps_due" aB ["row"] f fd) {bn:Addr} {db:FuncData} (be:Df K mg "_law_number_in" aM ["word"] bn db) (G_law_number_in:FnOk P w K mg base (CXe P w) 1 bn db ["word"] (fT T)):FnOk P w K mg base (CXe P w) 2 f fd ["row"] (jX T):=by
 refine D.F.okC dg (fun vs H Q E h=>?_) (fun cdv A outer s H vs Q E hr h=>?_)
 . obtain ⟨r0,rfl,_⟩:=h
   rfl
 . obtain ⟨r0,rfl,rl,wl,wo',k,kn⟩:=h;refine ⟨_,(ah (ba (aF cQ (pvl 0 gM) ar (aH _)) (aj (a9 (bf ag))) aw) (ah (aI (i:=1) dg.nd rfl (Or.inl bF.l) (dl PySem.F.plainAttrs_str PySem.F.slot_str_split PySem.F.type_str_split fY (pvl 0 gM) (ae ar ag))) (ah (aI (i:=2) dg.nd rfl (Or.inl dH.l) (bf ag)) (ah (gr PassesOwn.never rfl (zZ k9.g T.range (ae ai (ae (aP bU av.g T.len cV (ae (pvl 1 bF) ag) (hn:=av.n) (hdb:=av.d)) (ae ai ag)))) (cj (i:=3) dg.nd rfl (Or.inl bX.l)) (ah (rF (i:=4) dg.nd rfl bA.l rfl (g6 (Nc:=["word"]) 1 (by decide +kernel) (by decide +kernel) rfl (by decide +kernel) rfl) (gg (kq sU (pvl 1 bF) (jH (pvl 3 bX)) (jH (ax iK (pvl 3 bX) ai)))) (fun _ _ _ _=>(cj (i:=0) (show (["word"]:List Str).Nodup from by decide +kernel) rfl (Or.inl rfl))) (fun _ _ _ _=>hV) (fun _ _ _ _=>(bC G_law_number_in (hr.mono (by decide)) (by rfl) be.m be.F.kp be.b .nil (dj hq) (ae (pv 0) ag)))) (ah (ba (PW.pt (r9 (aF y6 (aP bU av.g T.len cV (ae (pvl 4 bA) ag) (hn:=av.n) (hdb:=av.d)) ai (aH _)) (oN (aF uE jb (pvl 4 bA) (by with_unfolding_all rfl))))) (aj (a9 jb)) aw) (ah (ba (PW.pt (lO (aF y6 (ax iK (pvl 3 bX) ai) (aP bU av.g T.len cV (ae (pvl 1 bF) ag) (hn:=av.n) (hdb:=av.d)) (aH _)) (pJ (PW.pt (r9 (aF nD (bH cg (pvl 1 bF) (ax iK (pvl 3 bX) ai) (fun _ _=>rfl)) ar (aH _)) (oN (aF cQ (ax iK (pvl 3 bX) ai) (aP bU av.g T.len cV (ae (pvl 1 bF) ag) (hn:=av.n) (hdb:=av.d)) (aH _)))))))) (aj (a9 jb)) aw) (aj (cz (dl PySem.F.plainAttrs_list PySem.F.slot_list_append PySem.F.type_list_append c7 (pvl 2 dH) (ae (qU (ae (bH cg (pvl 4 bA) ai (fun _ _=>rfl)) (ae (bH cg (pvl 4 bA) ai (fun _ _=>rfl)) (ae (bH cg (pvl 4 bA) ai (fun _ _=>rfl)) ag)))) ag)))))))) (aj (a9 (pvl 2 dH))))))),?_⟩;rw [show L2.start ["row","words","steps","k","three"] [V.str r0]=[some (V.str r0),none,none,none,none] from rfl];refine dn fun N1 h1=>?_;walk_at "rd";by_cases c:r0=Str.ofString "."
   . rw [if_pos (congrArg V.str c)];exact ⟨ap (by simp),fun p np=>k [] Ste.nil c p [] _ np (Same.new _ np) af .nil⟩
   . rw [if_neg (fun z=>c (by injection z))];refine h1 _ _ ?_;walk_at "rd";refine ⟨by simp [tyV],_,rfl,_,rfl,rfl,rl,fun q hq=>⟨ap (by simp),fun l nl=>?_⟩⟩;have hW:Txt.split r0 (Str.ofString " ")=wsp r0:=rfl;rw [hW];have sq:=Same.new (.lst ((wsp r0).map V.str)) hq;have sl:=sq.trans (Same.new (.lst []) nl);have hl0:H l=none:=sq.free nl;have eq1:upd (upd H q (.lst ((wsp r0).map V.str))) l (.lst []) q=some (.lst ((wsp r0).map V.str)):=Same.new _ nl _ _ af;have el1:upd (upd H q (.lst ((wsp r0).map V.str))) l (.lst []) l=some (.lst []):=af;generalize upd (upd H q (.lst ((wsp r0).map V.str))) l (.lst [])=G at sl eq1 el1 ⊢;have lq:l≠q:=fun z=>by rw [z,af] at nl;cases nl
     have Wn:wsp r0≠[]:=vQ _ _;generalize eW:wsp r0=W at wl wo' hW eq1 Wn ⊢;refine ⟨_,.inl (SqL.of eq1),0,_,4,⟨rfl,rfl,rfl⟩,⟨by decide,by decide,by omega,by rw [List.length_map];omega,by decide,by decide⟩,?_⟩;rw [List.length_map];refine yJ (fun i σ H2=>∃ (ss:List (List Nat)) (qs:List Addr),ss.length=i/\Ste ss/\(4*i<W.length->W.take (4*i)=stp ss)/\(W.length<=4*i->ss≠[]/\W=wo ss)/\H2 q=some (.lst (W.map V.str))/\H2 l=some (.lst (qs.map V.ref))/\Paired (fun q ns=>H2 q=some (.tup (vNs ns))) qs ss/\Same H H2/\∃ v3 v4,σ=[some (V.str r0),some (V.ref q),some (V.ref l),v3,v4]) ?_ ?_ ?_
     . exact ⟨[],[],rfl,Ste.nil,fun _=>rfl,fun z=>absurd (List.length_pos_iff.mpr Wn) (by omega),eq1,el1,.nil,sl,_,_,rfl⟩
     . rintro i σ H2 N hN hi ⟨ss,qs,sn,St,tk,_,eq2,el2,pr,s2,v3,v4,rfl⟩;have hi:4*i<W.length:=(by omega);have no:=fun z=>EI c (i:=i) (by rw [eW];exact hi) z;rw [eW] at no;unfold tSl sD;refine dn fun M1 k1=>?_;walk_at "rd";refine ⟨q,_,rfl,SqL.of eq2,fun p np=>?_⟩;have ec:kh (W.map V.str) (some (4*(i:Int))) (some (4*(i:Int)+3))=((W.drop (4*i)).take 3).map V.str:=by
         rw [DZ _ (by omega) (by omega),show (4*(i:Int)).toNat=4*i by omega,show (4*(i:Int)+3 - 4*(i:Int)).toNat=3 by omega,List.map_take,List.map_drop]
       rw [ec];have wo3:∀ w∈(W.drop (4*i)).take 3,WOk w:=fun w hw=>wo' w (List.mem_of_mem_drop (List.mem_of_mem_take hw));have l3:((W.drop (4*i)).take 3).length<=3:=(by rw [List.length_take];omega);generalize e3:(W.drop (4*i)).take 3=W3 at wo3 l3 no ⊢;refine ⟨p,rfl,⟨_,SqL.of af⟩,fun lc nlc=>?_⟩;have s3:=Same.new (.lst (W3.map V.str)) np;have hp3:upd H2 p (.lst (W3.map V.str)) p=some (.lst (W3.map V.str)):=af;generalize upd H2 p (.lst (W3.map V.str))=G3 at s3 nlc hp3 ⊢;refine iE (K:=K) (c:=true) (a:=p) (xs:=W3.map V.str) (fun i ys σ H2=>Same G3 H2/\H2 lc=some (.lst ys)/\ys=(W3.take i).map (fun w=>eY (numW w))/\∃ v,σ=[v]) ⟨Same.new _ nlc,af,rfl,_,rfl⟩ (fun i ys σ H2 _ ⟨z,_⟩=>SqL.of (z _ _ hp3)) ?_ ?_
       . rintro j x ys σ H4 N2 hN2 hj ⟨s5,h2,rfl,v,rfl⟩;obtain ⟨w,hw,rfl⟩:=List.getElem?_map_some hj;have et:W3.take (j+1)=W3.take j++[w]:=(by rw [List.take_succ,hw];rfl);have hil:j<W3.length:=(List.getElem?_eq_some_iff.mp hw).1;have wm:=List.mem_of_getElem? hw;walk_at "rd";have nx:∀ (x:V) (H5:Hp),x=eY (numW w)->Same H4 H5->H5 lc=some (.lst ((W3.take j).map (fun w=>eY (numW w))))/\((W3.take j).map (fun w=>eY (numW w))).length<sizeLine/\N2 ((W3.take j).map (fun w=>eY (numW w))++[x]) [some (V.str w)] (upd H5 lc (.lst ((W3.take j).map (fun w=>eY (numW w))++[x]))):=fun x H5 ex s6=>by
           refine ⟨s6 _ _ h2,small (by rw [List.length_map,List.length_take];omega),hN2 _ _ _ ⟨?_,af,?_,_,rfl⟩⟩
           . exact fun b o e=>by rw [am (au e nlc)];exact s6 _ _ (s5 _ _ e)
           . rw [et,List.map_append,ex]
             rfl
         exact ⟨w,rfl,wo3 w wm,fun n hn H3 s6=>nx _ H3 (by rw [hn];rfl) s6,fun hn H3 s6=>nx _ H3 (by rw [hn];rfl) s6⟩
       . rintro ys σ H4 ⟨s5,h2,rfl,v,rfl⟩;rw [List.length_map,List.take_length] at h2;have s25:=s3.trans s5;refine k1 _ _ (dn fun M2 k2=>?_);walk_at "rd";refine ⟨_,.inl (SqL.of h2),?_⟩;rw [List.length_map];by_cases l3':(W3.length:Int)<3
         . rw [if_pos l3'];refine kn (fun z=>?_) H4 (s2.trans s25);obtain ⟨ns,g1,g2,_⟩:=no z;have:=congrArg List.length g2;rw [List.length_map,List.length_map] at this;omega
         . rw [if_neg l3'];refine ⟨lc,_,rfl,.inl (SqL.of h2),rfl,?_,?_⟩
           . rw [List.all_eq_true];intro x hx;obtain ⟨w,hw,rfl⟩:=List.mem_map.mp hx;cases numW w <;> rfl
           rcases DP W3 with ⟨bad,e⟩|⟨ns,en,e⟩
           . refine ⟨_,rfl,?_⟩;rw [e,if_pos (by decide)];refine kn (fun z=>?_) H4 (s2.trans s25);obtain ⟨ns,g1,g2,_⟩:=no z;obtain ⟨w,hw,z⟩:=bad;have:numW w∈ns.map some:=(by rw [<- g2];exact List.mem_map.mpr ⟨w,hw,rfl⟩);rw [z] at this;obtain ⟨n,_,e⟩:=List.mem_map.mp this;cases e
           . refine ⟨_,rfl,?_⟩;rw [e,if_neg (by decide)];have n3:ns.length=3:=by
               have:=congrArg List.length en;rw [List.length_map,List.length_map] at this;omega
             rw [tD en] at h2;refine k2 _ _ (dn fun M3 k3=>?_);have eq4:=s25 _ _ eq2;have el4:=s25 _ _ el2;have app:(4*i+3<W.length->W[4*i+3]?=some slash/\4*i+4≠W.length)->M3 [some (V.str r0),some (V.ref q),some (V.ref l),some (V.int (4*(i:Int))),some (V.ref lc)] H4:=fun hm=>by
               refine k3 _ _ ?_;walk_at "rd";obtain ⟨a1,a2,a3,rfl⟩:∃ a b c,ns=[a,b,c]:=by
                 match ns,n3 with
                 | [a,b,c],_=>exact ⟨a,b,c,rfl⟩
               refine ⟨tyL el4,ixL h2 rfl (ixL h2 rfl (ixL h2 rfl ⟨ap (by simp),fun r nr=>?_⟩))⟩;have s6:=Same.new (.tup [V.int (a1:Int),V.int (a2:Int),V.int (a3:Int)]) nr;refine qf (s6 _ _ el4) (small (by rw [List.length_map];have:=Paired.length pr;omega)) ?_;obtain ⟨g1,g2,g3⟩:=Ek St (tk hi) (by rw [e3];exact en) n3 hm;have al:∀ b o,H2 b=some o->b≠l->(upd (upd H4 r (.tup [V.int (a1:Int),V.int (a2:Int),V.int (a3:Int)])) l (.lst (qs.map V.ref++[V.ref r]))) b=some o:=fun b o e nb=>by
                 rw [am nb];exact s6 _ _ (s25 _ _ e)
               refine hN _ _ ⟨ss++[[a1,a2,a3]],qs++[r],by rw [List.length_append,sn];rfl,g1,g2,g3,al _ _ eq2 (Ne.symm lq),?_,?_,fun b o e=>al _ _ (s2 _ _ e) (au e hl0),_,_,rfl⟩
               . rw [af,List.map_append]
                 rfl
               . refine mh ?_ (xM (fun b ns _ e=>al _ _ e fun z=>?_) pr)
                 . rw [am (fun z=>by rw [z,el4] at nr;cases nr),af]
                   rfl
                 . rw [z,el2] at e;cases e
             walk_at "rd";refine ⟨_,.inl (SqL.of eq4),?_⟩;rw [List.length_map];by_cases h3:4*(i:Int)+3<(W.length:Int)
             . rw [if_pos h3];have h3':4*i+3<W.length:=(by omega);obtain ⟨w,hw⟩:∃ w,W[4*i+3]?=some w:=⟨_,List.getElem?_eq_getElem h3'⟩;refine ixL eq4 (v:=V.str w) (jK (by omega) (by rw [show (4*(i:Int)+3).toNat=4*i+3 by omega,List.getElem?_map,hw];rfl)) ⟨rfl,?_⟩;have bad:¬ (W[4*i+3]?=some slash/\4*i+4≠W.length)->∀ H',Same H H'->Q .non H':=fun z=>kn fun y=>by
                 obtain ⟨_,_,_,g⟩:=no y;exact z (g h3')
               by_cases ew:w=slash
               . rw [if_neg (fun z=>z (congrArg V.str ew))];refine ⟨_,.inl (SqL.of eq4),?_⟩;rw [List.length_map];by_cases h4:4*(i:Int)+4=(W.length:Int)
                 . rw [if_pos h4];exact bad (fun z=>z.2 (by omega)) H4 (s2.trans s25)
                 . rw [if_neg h4];exact app fun _=>⟨by rw [hw,ew],by omega⟩
               . rw [if_pos (fun z=>ew (by injection z))];exact bad (fun z=>ew (by rw [hw] at z;exact Option.some.inj z.1)) H4 (s2.trans s25)
             . rw [if_neg h3];exact app fun z=>absurd z (by omega)
     . rintro i σ H2 hi ⟨ss,qs,sn,St,tk,we,eq2,el2,pr,s2,v3,v4,rfl⟩;walk_at "rd";obtain ⟨g1,g2⟩:=we (by omega);exact k ss St (E9 St g1 (by rw [eW];exact g2)) l qs H2 hl0 s2 el2 pr
def py (T:Txt K mg):Sp:=fun vs H Q _=>∃ (pk:Int) (r0:Str) (lb:Addr) (bs:List Str),vs=[.int pk,.str r0,.ref lb]/\(pk=0\/pk=1)/\Rw r0/\H lb=some (.lst (bs.map V.str))/\bs.length<=2/\(∀ b∈bs,Rw b)/\∀ H',Same H H'->Q (.bl true) H'
abbrev aJ:Stmt:=top 37
theorem e9:FnScope ["pick","row","behind","text","due","found"] ["pick","row","behind"] (aa aJ):=FnScope.of (by kernel_rfl)
theorem fG:NmL (aa aJ) "pick":=.of (by kernel_rfl)
theorem fX:NmL (aa aJ) "row":=.of (by kernel_rfl)
theorem gO:NmL (aa aJ) "behind":=.of (by kernel_rfl)
theorem dL:NmL (aa aJ) "text":=.of (by kernel_rfl)
theorem dh:NmL (aa aJ) "due":=.of (by kernel_rfl)
theorem dy:NmL (aa aJ) "found":=.of (by kernel_rfl)
theorem d4:NmG (aa aJ) "_law_numbers_due":=.of (by kernel_rfl)
theorem ez:NmG (aa aJ) "_law_steps_due":=.of (by kernel_rfl)
theorem gk:NmG (aa aJ) "_law_bad":=.of (by kernel_rfl)
theorem fC:NmG (aa aJ) "read_steps":=.of (by kernel_rfl)
theorem eP:NmG (aa aJ) "read_numbers":=.of (by kernel_rfl)
theorem wR (T:Txt K mg) (hq:bG (CXe P w)) {f:Addr} {fd:FuncData} (D:Df K mg "_law_right" aJ ["pick","row","behind"] f fd) {ff:Addr} {rp:FuncData} (gf:Df K mg "_law_bad" aE ["pick","text"] ff rp) (G_law_bad:FnOk P w K mg base (CXe P w) 7 ff rp ["pick","text"] (rX T)) {bP:Addr} {iX:FuncData} (cf:Df K mg "_law_numbers_due" a8 ["row"] bP iX) (G_law_numbers_due:FnOk P w K mg base (CXe P w) 2 bP iX ["row"] (iW T)) {b8:Addr} {kt:FuncData} (cN:Df K mg "_law_steps_due" aB ["row"] b8 kt) (G_law_steps_due:FnOk P w K mg base (CXe P w) 2 b8 kt ["row"] (jX T)) {bE:Addr} {dB:FuncData} (bj:Df K mg "read_numbers" aQ ["text"] bE dB) (G_read_numbers:FnOk P w K mg base (CXe P w) 4 bE dB ["text"] (gF T)) {bT:Addr} {eB:FuncData} (bK:Df K mg "read_steps" bi ["text"] bT eB) (G_read_steps:FnOk P w K mg base (CXe P w) 5 bT eB ["text"] (jf T)):FnOk P w K mg base (CXe P w) 8 f fd ["pick","row","behind"] (py T):=by
 refine D.F.okC e9 (fun vs H Q E h=>?_) (fun cdv A outer s H vs Q E hr h=>?_)
 . obtain ⟨pk,r0,lb,bs,rfl,_⟩:=h
   rfl
 . obtain ⟨pk,r0,lb,bs,rfl,hp,hr0,eb,b2,hb,k⟩:=h;have hv:=hr.units;refine ⟨_,(ah (aI (i:=3) e9.nd rfl (Or.inl dL.l) (dl PySem.F.plainAttrs_str PySem.F.slot_str_join PySem.F.type_str_join xV ar (ae (ax vY (bf (ae (pvl 1 fX) ag)) (pvl 2 gO)) ag))) (ah (aI (i:=4) e9.nd rfl (Or.inl dh.l) (bC G_law_numbers_due (hr.mono (by decide)) d4.g cf.m cf.F.kp cf.b .nil (dj hq) (ae (pvl 1 fX) ag) (hdb:=d4.d))) (ah (ba (aF cQ (pvl 0 fG) ai (aH _)) (aj (aI (i:=4) e9.nd rfl (Or.inl dh.l) (bC G_law_steps_due (hr.mono (by decide)) ez.g cN.m cN.F.kp cN.b .nil (dj hq) (ae (pvl 1 fX) ag) (hdb:=ez.d)))) aw) (ah (aI (i:=5) e9.nd rfl (Or.inl dy.l) (bC G_law_bad (hr.mono (by decide)) gk.g gf.m gf.F.kp gf.b .nil (dj hq) (ae (pvl 0 fG) (ae (pvl 3 dL) ag)) (hdb:=gk.d))) (ah (ba (wG (EM (pvl 4 dh))) (aj (a9 (ft cQ (pvl 5 dy) ai (aH _)))) aw) (ah (ba (aF (EC hv) (pvl 2 gO) (bf ag) (aH _)) (aj (a9 (ft cQ (pvl 5 dy) ai (aH _)))) aw) (ah (ba (wG (DJ (pvl 5 dy))) (aj (a9 pC)) aw) (ah (ba (aF cQ (pvl 0 fG) ai (aH _)) (aj (a9 (ft (rO hv) (bC G_read_steps (hr.mono (by decide)) fC.g bK.m bK.F.kp bK.b .nil (dj hq) (ae (pvl 3 dL) ag) (hdb:=fC.d)) (pvl 4 dh) (aH _)))) aw) (aj (a9 (ft (rO hv) (bC G_read_numbers (hr.mono (by decide)) eP.g bj.m bj.F.kp bj.b .nil (dj hq) (ae (pvl 3 dL) ag) (hdb:=eP.d)) (pvl 4 dh) (aH _)))))))))))),?_⟩;rw [show L2.start ["pick","row","behind","text","due","found"] [V.int pk,V.str r0,V.ref lb]=[some (V.int pk),some (V.str r0),some (V.ref lb),none,none,none] from rfl];refine dn fun N1 h1=>?_;walk_at "rd";refine ⟨by simp [tyV],ap (by simp),fun q nq=>?_⟩;have s1:=Same.new (HO.lst [V.str r0]) nq;refine Cs af (s1 _ _ eb) (ap (by rw [List.length_map];simp;omega)) fun p np=>?_;have s2:=s1.trans (Same.new (HO.lst ([V.str r0]++bs.map V.str)) np);have e2:upd (upd H q (.lst [V.str r0])) p (.lst ([V.str r0]++bs.map V.str)) p=some (.lst ((r0::bs).map V.str)):=af;generalize upd (upd H q (.lst [V.str r0])) p (.lst ([V.str r0]++bs.map V.str))=H2 at s2 e2 ⊢;have al:∀ b∈r0::bs,Rw b:=fun b hx=>by
     rcases List.mem_cons.mp hx with rfl|hx
     . exact hr0
     . exact hb b hx
   have sp:Txt.split (Str.join (Str.ofString "\n") (r0::bs)) (Str.ofString "\n")=r0::bs:=mF (c:=10) (by simp) fun y hy=>(al y hy).pl.row;have al2:∀ b∈r0::bs,b.length<=1900:=fun b hx=>(al b hx).len;have zl:=wc (z:=Str.ofString "\n") al2;have zl:(Str.join (Str.ofString "\n") (r0::bs)).length<=60000:=by
     rw [show (Str.ofString "\n").length=1 from rfl,List.length_cons] at zl;omega
   have sm:=wx al2;refine ⟨_,p,_,rfl,rfl,SqL.of e2,by rw [show (Str.ofString "\n").length=1 from rfl];rw [List.length_cons] at *;omega,h1 _ _ (dn fun N2 h2=>?_)⟩;generalize Str.join (Str.ofString "\n") (r0::bs)=z at sp zl ⊢;have eb2:=s2 _ _ eb;walk_at "rd";obtain ⟨g1,g2,g3⟩:=hr0.wrds;obtain ⟨f1,f2,f3⟩:=hr0.wsp;have go:∀ (dv0:V) (H3:Hp),Same H2 H3->(pk=0->(¬ r6 r0/\dv0=.non)\/(∃ (d:Addr) (ns:List Nat),dv0=.ref d/\(wrds r0).map numW=ns.map some/\H3 d=some (.lst (vNs ns))))->N2 [some (V.int pk),some (V.str r0),some (V.ref lb),some (V.str z),some dv0,none] H3:=by
     intro dv0 H3 s3 hd0;refine h2 _ _ (dn fun N3 h3=>?_);have ao:∀ (dv:V) (good:Prop) (H3:Hp),Same H2 H3->((pk=0/\good=r6 r0)\/(pk=1/\good=rf r0))->((¬ good/\dv=.non)\/(good/\∃ d:Addr,dv=.ref d/\((pk=0/\∃ ns:List Nat,(wrds r0).map numW=ns.map some/\H3 d=some (.lst (vNs ns)))\/(pk=1/\∃ (ss:List (List Nat)) (qs:List Addr),Paired fz (prts r0) ss/\H3 d=some (.lst (qs.map V.ref))/\Paired (fun q ns=>H3 q=some (.tup (vNs ns))) qs ss))))->N3 [some (V.int pk),some (V.str r0),some (V.ref lb),some (V.str z),some dv,none] H3:=by
       intro dv good H3 s3 hg hd;refine h3 _ _ ?_;walk_at "rd";refine ⟨pk,z,r0,bs,good,rfl,zl,sp,hr0,hg,fun fv H5 s5 hf=>?_⟩;have s25:=s2.trans (s3.trans s5);rcases hd with ⟨ng,rfl⟩|⟨gd,d,rfl,hd⟩
       . dsimp only;rw [if_pos rfl];rcases hf with ⟨g,_⟩|⟨_,rfl⟩|⟨g,_⟩
         . exact absurd g ng
         . refine ⟨rfl,?_⟩;rw [decide_eq_true rfl];exact k _ s25
         . exact absurd g ng
       . dsimp only;rw [if_neg (by intro z;cases z)];refine ⟨ap (by simp),fun p np=>?_⟩;have s6:=Same.new (HO.lst []) np;refine DB (fun w hw=>(hb w hw).pl) (s6 _ _ (s5 _ _ (s3 _ _ eb2))) af ⟨_,rfl,?_⟩;by_cases bz:bs=[]
         . rw [if_neg (by rw [decide_eq_true bz];decide)];have hf:fv=.non:=by
             rcases hf with ⟨_,_,e⟩|⟨g,_⟩|⟨_,ne,_⟩
             . exact e
             . exact absurd gd g
             . exact absurd bz ne
           rw [if_neg (fun z=>z hf)];have s56:=s5.trans s6;have s26:=s25.trans s6;generalize upd H5 p (HO.lst [])=H6 at s56 s26 ⊢;rcases hd with ⟨rfl,ns,en,ed⟩|⟨rfl,ss,qs,pr,ed,pd⟩
           . rw [if_neg (by decide)];have hg:good=r6 r0:=by
               rcases hg with ⟨_,e⟩|⟨e,_⟩
               . exact e
               . cases e
             refine ⟨z,r0,bs,rfl,zl,sp,g1,g2,g3,fun ns' en' _ l H7 nl s7 el=>?_,fun bad=>absurd (hg ▸ gd) (qu bad),fun _ ne=>absurd bz ne⟩;have:=qM (en.symm.trans en');subst this;rw [Dc] at el ed;refine CT el (s7 _ _ (s56 _ _ ed)) ?_;rw [decide_eq_true rfl];exact k _ (s26.trans s7)
           . rw [if_pos rfl];have hg:good=rf r0:=by
               rcases hg with ⟨e,_⟩|⟨_,e⟩
               . cases e
               . exact e
             obtain ⟨p1,p2,p3⟩:=hr0.prts;refine ⟨z,r0,bs,rfl,zl,sp,p1,p2,p3,fun ss' pr' _ l qs' H7 nl s7 el pq=>?_,fun bad=>absurd (hg ▸ gd) (wa bad),fun _ _ ne=>absurd bz ne⟩;have:=sA pr pr';subst this;exact A8 el pq (s7 _ _ (s56 _ _ ed)) (Paired.imp' (fun q ns e=>s7 _ _ (s56 _ _ e)) pd) (k _ (s26.trans s7))
         . rw [if_pos (by rw [decide_eq_false bz];decide)];rcases hf with ⟨_,e,_⟩|⟨g,_⟩|⟨_,_,rfl⟩
           . exact absurd e bz
           . exact absurd gd g
           . refine ⟨rfl,?_⟩;rw [decide_eq_true rfl];exact k _ (s25.trans s6)
     walk_at "rd";rcases hp with rfl|rfl
     . rw [if_neg (by decide)];refine ao dv0 _ H3 s3 (.inl ⟨rfl,rfl⟩) ?_;rcases hd0 rfl with ⟨ng,e⟩|⟨d,ns,e,en,ed⟩
       . exact .inl ⟨ng,e⟩
       . exact .inr ⟨⟨ns,en⟩,d,e,.inl ⟨rfl,ns,en,ed⟩⟩
     . rw [if_pos rfl];refine ⟨r0,rfl,f1,f2,f3,fun ss St e l qs H4 nl s4 el pq=>?_,fun no H4 s4=>?_⟩
       . refine ao _ _ H4 (s3.trans s4) (.inr ⟨rfl,rfl⟩) (.inr ⟨uR.mpr ⟨ss,St,e⟩,l,rfl,.inr ⟨rfl,ss,qs,?_,el,pq⟩⟩);rw [e];exact vV St
       . exact ao _ _ H4 (s3.trans s4) (.inr ⟨rfl,rfl⟩) (.inl ⟨fun g=>no (uR.mp g),rfl⟩)
   refine ⟨r0,rfl,g1,g2,g3,fun ns en l H3 nl s3 el=>go _ H3 s3 fun _=>.inr ⟨l,ns,rfl,en,el⟩,fun bad H3 s3=>go _ H3 s3 fun _=>.inl ⟨qu bad,rfl⟩⟩
def qW (T:Txt K mg):Sp:=fun vs H Q _=>∃ (pk c:Int),vs=[.int pk,.int c]/\(pk=0\/pk=1)/\∀ l ws H',H l=none->Same H H'->H' l=some (.lst (ws.map V.str))->WsO 10 20 ws->Q (.ref l) H'
abbrev bg:Stmt:=top 35
theorem fw:FnScope ["pick","cell","words","k","number"] ["pick","cell"] (aa bg):=FnScope.of (by kernel_rfl)
theorem gx:NmL (aa bg) "pick":=.of (by kernel_rfl)
theorem eN:NmL (aa bg) "cell":=.of (by kernel_rfl)
theorem bJ:NmL (aa bg) "words":=.of (by kernel_rfl)
theorem ka:NmL (aa bg) "k":=.of (by kernel_rfl)
theorem jy:NmL (aa bg) "number":=.of (by kernel_rfl)
theorem qN:NmG (aa bg) "range":=.of (by kernel_rfl)
theorem ib:NmG (aa bg) "str":=.of (by kernel_rfl)
theorem iI:NmG (aa bg) "int":=.of (by kernel_rfl)
theorem iq:NmG (aa bg) "max":=.of (by kernel_rfl)
theorem ii:NmG (aa bg) "len":=.of (by kernel_rfl)
theorem zb (T:Txt K mg) (hq:bG (CXe P w)) {f:Addr} {fd:FuncData} (D:Df K mg "_law_row" bg ["pick","cell"] f fd):FnOk P w K mg base (CXe P w) 1 f fd ["pick","cell"] (qW T):=by
 refine D.F.okC fw (fun vs H Q E h=>?_) (fun cdv A outer s H vs Q E hr h=>?_)
 . obtain ⟨pk,c,rfl,_⟩:=h
   rfl
 . obtain ⟨pk,c,rfl,hp,k⟩:=h;have hv:=hr.units;refine ⟨_,(ah (aI (i:=2) fw.nd rfl (Or.inl bJ.l) (bf ag)) (ah (gr PassesOwn.never rfl (uk qN.g T.range (ae (bH cg (bf (ae (ax dC (pvl 1 eN) ai) (ae (ax zT (ax dC (pvl 1 eN) ai) ai) ag))) (pvl 0 gx) (fun _ _=>rfl)) ag)) (cj (i:=3) fw.nd rfl (Or.inl ka.l)) (ah (aI (i:=4) fw.nd rfl (Or.inl jy.l) (ax dC (ax f6 (pvl 1 eN) (ax iK (pvl 3 ka) ai)) (bH cg (bf (ae ai (ae (ax Em ai ai) ag))) (ax dC (ax f6 (pvl 1 eN) ai) ai) (fun _ _=>rfl)))) (aj (cz (dl PySem.F.plainAttrs_list PySem.F.slot_list_append PySem.F.type_list_append c7 (pvl 2 bJ) (ae (bH cg (bf (ae (f7 wC ib.g T.str Ex (ae (pvl 4 jy) ag) (hn:=ib.n) (hdb:=ib.d)) (ae ar ag))) (f7 A5 iI.g T.int zV (ae (Et (ft cQ (pvl 0 gx) ai (aH _)) (A4 (ft cQ (ax dC (pvl 3 ka) ai) ai (aH _)))) ag) (hn:=iI.n) (hdb:=iI.d)) (fun _ _=>rfl)) ag)))))) (ah (ba (aF cQ (pvl 0 gx) ai (aH _)) (ah (aI (i:=2) fw.nd rfl (Or.inl bJ.l) (kq sU (pvl 2 bJ) pI (jH (aP (AO rfl) iq.g T.max Ep (ae ai (ae (ax AM (aP bU ii.g T.len cV (ae (pvl 2 bJ) ag) (hn:=ii.n) (hdb:=ii.d)) ai) ag)) (hn:=iq.n) (hdb:=iq.d))))) (aj (ba (aF (rO hv) (pvl 2 bJ) (bf ag) (aH _)) (aj (aI (i:=2) fw.nd rfl (Or.inl bJ.l) (bf (ae ar ag)))) aw))) aw) (aj (a9 (pvl 2 bJ)))))),?_⟩;rw [show L2.start ["pick","cell","words","k","number"] [V.int pk,V.int c]=[some (V.int pk),some (V.int c),none,none,none] from rfl];unfold tSl sD tNoPart;refine dn fun N1 h1=>?_;walk_at "rd";refine ⟨ap (by simp),fun l nl=>h1 _ _ (dn fun N2 h2=>?_)⟩;walk_at "rd";refine ⟨by decide,by decide,.inr ⟨by decide,by decide⟩,ap (by simp),fun q nq=>?_⟩;have s1:=Same.new (HO.lst []) nl;have s2:=Same.new (HO.lst [V.int (c % 6),V.int (c % 5*4)]) nq;have el:upd (upd H l (.lst [])) q (.lst [V.int (c % 6),V.int (c % 5*4)]) l=some (.lst (([]:List Str).map V.str)):=s2 _ _ af;have s12:=s1.trans s2;have hj:∃ n:Nat,n<=16/\atI [V.int (c % 6),V.int (c % 5*4)] pk=some (V.int n):=by
     rcases hp with rfl|rfl
     . exact ⟨(c % 6).toNat,by omega,by rw [Int.toNat_of_nonneg (by omega)];rfl⟩
     . exact ⟨(c % 5*4).toNat,by omega,by rw [Int.toNat_of_nonneg (by omega)];rfl⟩
   obtain ⟨n,n16,hn⟩:=hj;refine ixL af hn ⟨_,rfl,by omega,by omega,?_⟩;generalize upd (upd H l (.lst [])) q (.lst [V.int (c % 6),V.int (c % 5*4)])=G at s12 el ⊢;clear s1 s2;rw [Int.toNat_natCast];refine rK (fun i σ H2=>Same H H2/\(∃ ws:List Str,H2 l=some (.lst (ws.map V.str))/\ws.length=i/\∀ w∈ws,Pl w/\w.length<=10)/\∃ v3 v4,σ=[some (V.int pk),some (V.int c),some (V.ref l),v3,v4]) ⟨s12,⟨[],el,rfl,fun _ z=>by cases z⟩,_,_,rfl⟩ ?_ ?_
   . rintro i σ H2 N BB hBB hN hi ⟨s3,⟨ws,el2,wl,wo'⟩,v3,v4,rfl⟩;refine hBB _ _ (dn fun M1 k1=>?_);walk_at "rd";refine ⟨⟨by omega,by omega⟩,⟨by decide,by decide⟩,ap (by simp),fun q nq=>⟨⟨by decide,by decide⟩,by decide,?_⟩⟩;have s4:=Same.new (HO.lst [V.int 10,V.int (10^Int.toNat 9)]) nq;have el4:=s4 _ _ el2;have hm:∃ m:Nat,0<m/\m<=10^9/\atI [V.int 10,V.int (10^Int.toNat 9)] (c / 11 % 2)=some (V.int m):=by
       rcases (show c / 11 % 2=0\/c / 11 % 2=1 by omega) with e|e <;> rw [e]
       . exact ⟨10,by decide,by decide,rfl⟩
       . exact ⟨10^9,by decide,by decide,rfl⟩
     obtain ⟨m,m0,m9,hm⟩:=hm;refine ixL af hm ⟨_,rfl,by omega,?_⟩;generalize upd H2 q (.lst [V.int 10,V.int (10^Int.toNat 9)])=H3 at s4 el4 ⊢;have q0:=Int.emod_nonneg (c / (0+(i:Int)+7)) (show (m:Int)≠0 by omega);have q1:=Int.emod_lt_of_pos (c / (0+(i:Int)+7)) (show 0<(m:Int) by omega);obtain ⟨nn,hnn⟩:∃ nn:Nat,c / (0+(i:Int)+7) % (m:Int)=nn:=⟨_,(Int.toNat_of_nonneg q0).symm⟩;rw [hnn] at q0 q1 ⊢;refine k1 _ _ ?_;walk_at "rd";have fin:∀ (j:Int) (p:Addr),(j=0\/j=1)->H3 p=none->BA K (V.ref p) (V.int j) (upd H3 p (HO.lst [V.str (Str.ofString (toString (nn:Int))),V.str (Str.ofString "/")])) fun x H1=>rAppend (V.ref l) [x] H1 fun x H1=>N [some (V.int pk),some (V.int c),some (V.ref l),some (V.int (0+(i:Int))),some (V.int nn)] H1:=fun j p hj np=>by
       have s5:=Same.new (HO.lst [V.str (Str.ofString (toString (nn:Int))),V.str (Str.ofString "/")]) np;have hw:∃ w,atI [V.str (Str.ofString (toString (nn:Int))),V.str (Str.ofString "/")] j=some (V.str w)/\Pl w/\w.length<=10:=by
         rcases hj with e|e <;> rw [e]
         . refine ⟨_,rfl,?_⟩;rw [Fk];refine ⟨Pl.fs nn,?_⟩;rw [bq,lD];exact Nat.le_trans (mP 8 nn (by omega)) (by decide)
         . refine ⟨_,rfl,?_⟩;unfold Pl
           decide +kernel
       obtain ⟨w,hw,pw,lw⟩:=hw;refine ixL af hw (qf (s5 _ _ el4) (small (by rw [List.length_map];omega)) (hN _ _ ⟨?_,⟨ws++[w],?_,by rw [List.length_append,wl];rfl,fun x hx=>?_⟩,_,_,rfl⟩))
       . exact fun b o e=>by rw [am (au e nl)];exact s5 _ _ (s4 _ _ (s3 _ _ e))
       . rw [af,List.map_append]
         rfl
       . rcases List.mem_append.mp hx with hx|hx
         . exact wo' x hx
         . rw [List.mem_singleton.mp hx];exact ⟨pw,lw⟩
     refine ⟨tyL el4,D6 (n:=10) (by omega) (by decide) (by decide),ap (by simp),fun p np=>?_⟩;split
     . refine ⟨by decide,.inr (fin _ p ?_ np)⟩;split
       . exact .inr rfl
       . exact .inl rfl
     . exact .inr (fin _ p (.inl rfl) np)
   . rintro BB σ H2 hBB ⟨s3,⟨ws,el2,wl,wo'⟩,v3,v4,rfl⟩;refine hBB _ _ (h2 _ _ ?_);walk_at "rd";by_cases p1:pk=1
     . rw [if_pos p1];refine ⟨_,.inl (SqL.of el2),_,_,⟨rfl,rfl⟩,l,_,rfl,SqL.of el2,fun q nq=>?_⟩;have j0:0<=(if ((ws.map V.str).length:Int) - 1 > 0 then ((ws.map V.str).length:Int) - 1 else 0):=(by split <;> omega);rw [Ev _ j0,<- List.map_take];have wo3:∀ w∈ws.take (if ((ws.map V.str).length:Int) - 1 > 0 then ((ws.map V.str).length:Int) - 1 else 0).toNat,Pl w/\w.length<=10:=fun w hw=>wo' w (List.mem_of_mem_take hw);have wl3:(ws.take (if ((ws.map V.str).length:Int) - 1 > 0 then ((ws.map V.str).length:Int) - 1 else 0).toNat).length<=20:=(by rw [List.length_take];omega);generalize ws.take (if ((ws.map V.str).length:Int) - 1 > 0 then ((ws.map V.str).length:Int) - 1 else 0).toNat=ws3 at wo3 wl3 ⊢;refine ⟨ap (by simp),fun r nr=>?_⟩;have s5:=Same.new (HO.lst (ws3.map V.str)) nq;have s6:=Same.new (HO.lst []) nr;refine tG (fun w hw=>(wo3 w hw).1) (s6 _ _ af) af ⟨_,rfl,?_⟩;by_cases z:ws3=[]
       . rw [if_pos (decide_eq_true z)];refine ⟨ap (by simp),fun r2 nr2=>k r2 [Str.ofString "."] _ (s3.free (s5.free (s6.free nr2))) (s3.trans (s5.trans (s6.trans (Same.new _ nr2)))) af ⟨by decide,fun w hw=>?_⟩⟩;rw [List.mem_singleton.mp hw];unfold Pl
         decide +kernel
       . rw [if_neg (by rw [decide_eq_true_eq];exact z)];exact k q ws3 _ (s3.free nq) (s3.trans (s5.trans s6)) (s6 _ _ af) ⟨wl3,wo3⟩
     . rw [if_neg p1];exact k l ws H2 nl s3 el2 ⟨by omega,wo'⟩
def vB (K:PySem.W.Frag):Sp:=fun vs H Q _=>∃ (a:Addr) (ns:List Int),vs=[.ref a]/\SqL K H a (ns.map V.int)/\ns.length<=63/\∀ H',Q (.bl true) H'
def E5 (T:Txt K mg):Sp:=vB K
abbrev cP:Stmt:=top 38
theorem lK:FnScope ["script","cell","pick","words","row","behind"] ["script"] (aa cP):=FnScope.of (by kernel_rfl)
theorem vg:NmL (aa cP) "script":=.of (by kernel_rfl)
theorem iJ:NmL (aa cP) "cell":=.of (by kernel_rfl)
theorem ly:NmL (aa cP) "pick":=.of (by kernel_rfl)
theorem oO:NmL (aa cP) "words":=.of (by kernel_rfl)
theorem mY:NmL (aa cP) "row":=.of (by kernel_rfl)
theorem nN:NmL (aa cP) "behind":=.of (by kernel_rfl)
theorem wf:NmG (aa cP) "range":=.of (by kernel_rfl)
theorem iP:NmG (aa cP) "_law_changed":=.of (by kernel_rfl)
theorem lM:NmG (aa cP) "_law_row":=.of (by kernel_rfl)
theorem kx:NmG (aa cP) "_law_right":=.of (by kernel_rfl)
theorem EH (T:Txt K mg) (hq:bG (CXe P w)) {f:Addr} {fd:FuncData} (D:Df K mg "law" cP ["script"] f fd) {cS:Addr} {lH:FuncData} (dq:Df K mg "_law_changed" aO ["words","cell"] cS lH) (G_law_changed:FnOk P w K mg base (CXe P w) 2 cS lH ["words","cell"] (lF T)) {dI:Addr} {o0:FuncData} (eE:Df K mg "_law_right" aJ ["pick","row","behind"] dI o0) (G_law_right:FnOk P w K mg base (CXe P w) 8 dI o0 ["pick","row","behind"] (py T)) {fk:Addr} {rN:FuncData} (f9:Df K mg "_law_row" bg ["pick","cell"] fk rN) (G_law_row:FnOk P w K mg base (CXe P w) 1 fk rN ["pick","cell"] (qW T)):FnOk P w K mg base (CXe P w) 9 f fd ["script"] (E5 T):=by
 refine D.F.okC lK (fun vs H Q E h=>?_) (fun cdv A outer s H vs Q E hr h=>?_)
 . obtain ⟨a,ns,rfl,_⟩:=h
   rfl
 . obtain ⟨a,ns,rfl,ha,hn,k⟩:=h;refine ⟨_,(ah (gr PassesOwn.never rfl (gg (ax vY (bf (ae ai (ae ai ag))) (kq sU (pvl 0 vg) pI (jH ai)))) (cj (i:=1) lK.nd rfl (Or.inl iJ.l)) (aj (gr PassesOwn.never rfl (uk wf.g T.range (ae ai ag)) (cj (i:=2) lK.nd rfl (Or.inl ly.l)) (ah (aI (i:=3) lK.nd rfl (Or.inl oO.l) (bC G_law_changed (hr.mono (by decide)) iP.g dq.m dq.F.kp dq.b .nil (dj hq) (ae (bC G_law_row (hr.mono (by decide)) lM.g f9.m f9.F.kp f9.b .nil (dj hq) (ae (pvl 2 ly) (ae (pvl 1 iJ) ag)) (hdb:=lM.d)) (ae (ax f6 (pvl 1 iJ) ai) ag)) (hdb:=iP.d))) (ah (aI (i:=4) lK.nd rfl (Or.inl mY.l) (dl PySem.F.plainAttrs_str PySem.F.slot_str_join PySem.F.type_str_join xV ar (ae (pvl 3 oO) ag))) (ah (aI (i:=5) lK.nd rfl (Or.inl nN.l) (bH cg (bf (ae (bf ag) (ae (bf ag) (ae (bf ag) (ae (bf (ae ar ag)) (ae (bf (ae (pvl 4 mY) ag)) (ae (bf (ae ar (ae ar ag))) ag))))))) (ax dC (ax f6 (pvl 1 iJ) ai) ai) (fun _ _=>rfl))) (aj (ba (fi (fQ (bC G_law_right (hr.mono (by decide)) kx.g eE.m eE.F.kp eE.b .nil (dj hq) (ae (pvl 2 ly) (ae (pvl 4 mY) (ae (pvl 5 nN) ag))) (hdb:=kx.d)))) (aj (a9 pC)) aw)))))))) (aj (a9 pC))),?_⟩;rw [show L2.start ["script","cell","pick","words","row","behind"] [V.ref a]=[some (V.ref a),none,none,none,none,none] from rfl];unfold tSl sD tNoPart;refine dn fun N1 h1=>?_;walk_at "rd";refine ⟨ap (by simp),fun q nq=>?_⟩;have s1:=Same.new (HO.lst [V.int 0,V.int 1]) nq;refine slI (s1.seq ha) fun p np=>?_;have cl:=CG ns none (some 40);generalize tF ns none (some 40)=cs at cl np ⊢;have s2:=Same.new (HO.lst (cs.map V.int)) np;refine Cs (s2 _ _ af) af (ap (by rw [List.length_map];simp;omega)) fun r nr=>?_;have e3:upd (upd (upd H q (.lst [V.int 0,V.int 1])) p (.lst (cs.map V.int))) r (.lst ([V.int 0,V.int 1]++cs.map V.int)) r=some (.lst ((0::1::cs).map V.int)):=af;generalize upd (upd (upd H q (.lst [V.int 0,V.int 1])) p (.lst (cs.map V.int))) r (.lst ([V.int 0,V.int 1]++cs.map V.int))=H1 at e3 ⊢;clear s1 s2 np nr nq;refine ⟨r,rfl,⟨_,SqL.of e3⟩,?_⟩;refine zK (K:=K) (xs:=(0::1::cs).map V.int) (fun i σ H5=>Same H1 H5/\∃ v1 v2 v3 v4 v5,σ=[some (V.ref a),v1,v2,v3,v4,v5]) ⟨Same.refl _,_,_,_,_,_,rfl⟩ (fun i σ H5 _ z=>SqL.of (z.1 _ _ e3)) ?_ ?_
   . rintro i y σ H5 N BB hBB hN hy ⟨s5,v1,v2,v3,v4,v5,rfl⟩;obtain ⟨c,_,rfl⟩:=List.getElem?_map_some hy;refine hBB _ _ ?_;walk_at "rd";refine ⟨by decide,by decide,?_⟩;refine rK (fun i σ H6=>Same H1 H6/\∃ v2 v3 v4 v5,σ=[some (V.ref a),some (V.int c),v2,v3,v4,v5]) ⟨s5,_,_,_,_,rfl⟩ ?_ ?_
     . rintro j σ H6 N2 B2 hB2 hN2 hj ⟨s6,w2,w3,w4,w5,rfl⟩;have hpk:(0+(j:Int)=0\/0+(j:Int)=1):=(by omega);refine hB2 _ _ (dn fun M1 k1=>?_);walk_at "rd";generalize 0+(j:Int)=pk at hpk ⊢;refine ⟨pk,c,rfl,hpk,fun l ws H7 nl s7 el wo7=>⟨⟨by decide,by decide⟩,l,_,ws,rfl,el,wo7,fun l2 ws2 H8 nl2 s8 el2 wo8=>k1 _ _ (dn fun M2 k2=>?_)⟩⟩;walk_at "rd";have w82:∀ w∈ws2,w.length<=82:=fun w hw=>(wo8.2 w hw).2;have jl:=wc (z:=Str.ofString " ") w82;have sm:=wx w82;have n21:=wo8.1;have hrw:Rw (Str.join (Str.ofString " ") ws2):=⟨Pl.join (by unfold Pl;decide +kernel) fun w hw=>(wo8.2 w hw).1,by rw [show (Str.ofString " ").length=1 from rfl] at jl;omega⟩;refine ⟨by simp [tyV],_,l2,_,rfl,rfl,SqL.of el2,by rw [show (Str.ofString " ").length=1 from rfl];omega,k2 _ _ (dn fun M3 k3=>?_)⟩;generalize Str.join (Str.ofString " ") ws2=row at hrw ⊢;walk_at "rd";refine ⟨ap (by simp),fun p0 n0=>?_⟩;have t0:=Same.new (HO.lst []) n0;have b0:upd H8 p0 (HO.lst []) p0=some (.lst (([]:List Str).map V.str)):=af;generalize upd H8 p0 (HO.lst [])=G1 at t0 b0 ⊢;refine ⟨ap (by simp),fun p1 n1=>?_⟩;have t1:=Same.new (HO.lst []) n1;have b1:upd G1 p1 (HO.lst []) p1=some (.lst (([]:List Str).map V.str)):=af;generalize upd G1 p1 (HO.lst [])=G2 at t1 b1 ⊢;refine ⟨ap (by simp),fun p2 n2=>?_⟩;have t2:=Same.new (HO.lst []) n2;have b2:upd G2 p2 (HO.lst []) p2=some (.lst (([]:List Str).map V.str)):=af;generalize upd G2 p2 (HO.lst [])=G3 at t2 b2 ⊢;refine ⟨ap (by simp),fun p3 n3=>?_⟩;have t3:=Same.new (HO.lst [V.str (Str.ofString "")]) n3;have b3:upd G3 p3 (HO.lst [V.str (Str.ofString "")]) p3=some (.lst ([Str.ofString ""].map V.str)):=af;generalize upd G3 p3 (HO.lst [V.str (Str.ofString "")])=G4 at t3 b3 ⊢;refine ⟨ap (by simp),fun p4 n4=>?_⟩;have t4:=Same.new (HO.lst [V.str row]) n4;have b4:upd G4 p4 (HO.lst [V.str row]) p4=some (.lst ([row].map V.str)):=af;generalize upd G4 p4 (HO.lst [V.str row])=G5 at t4 b4 ⊢;refine ⟨ap (by simp),fun p5 n5=>?_⟩;have t5:=Same.new (HO.lst [V.str (Str.ofString ""),V.str (Str.ofString "x")]) n5;have b5:upd G5 p5 (HO.lst [V.str (Str.ofString ""),V.str (Str.ofString "x")]) p5=some (.lst ([Str.ofString "",Str.ofString "x"].map V.str)):=af;generalize upd G5 p5 (HO.lst [V.str (Str.ofString ""),V.str (Str.ofString "x")])=G6 at t5 b5 ⊢;refine ⟨ap (by simp),fun p6 n6=>⟨⟨by decide,by decide⟩,by decide,?_⟩⟩;have t6:=Same.new (HO.lst [V.ref p0,V.ref p1,V.ref p2,V.ref p3,V.ref p4,V.ref p5]) n6;have b6:upd G6 p6 (HO.lst [V.ref p0,V.ref p1,V.ref p2,V.ref p3,V.ref p4,V.ref p5]) p6=some (.lst [V.ref p0,V.ref p1,V.ref p2,V.ref p3,V.ref p4,V.ref p5]):=af;generalize upd G6 p6 (HO.lst [V.ref p0,V.ref p1,V.ref p2,V.ref p3,V.ref p4,V.ref p5])=G7 at t6 b6 ⊢;have t56:=t5.trans t6;have t46:=t4.trans t56;have t36:=t3.trans t46;have t26:=t2.trans t36;have t16:=t1.trans t26;have t06:=t0.trans t16;have rnil:Rw (Str.ofString ""):=⟨by unfold Pl;decide +kernel,by decide +kernel⟩;have rx:Rw (Str.ofString "x"):=⟨by unfold Pl;decide +kernel,by decide +kernel⟩;have hb:∃ (lb:Addr) (bs:List Str),atI [V.ref p0,V.ref p1,V.ref p2,V.ref p3,V.ref p4,V.ref p5] (c / 13 % 6)=some (V.ref lb)/\G7 lb=some (.lst (bs.map V.str))/\bs.length<=2/\∀ b∈bs,Rw b:=by
         rcases (show c / 13 % 6=0\/c / 13 % 6=1\/c / 13 % 6=2\/c / 13 % 6=3\/c / 13 % 6=4\/c / 13 % 6=5 by omega) with e|e|e|e|e|e <;> rw [e]
         . exact ⟨p0,[],rfl,t16 _ _ b0,by decide,fun _ z=>by cases z⟩
         . exact ⟨p1,[],rfl,t26 _ _ b1,by decide,fun _ z=>by cases z⟩
         . exact ⟨p2,[],rfl,t36 _ _ b2,by decide,fun _ z=>by cases z⟩
         . exact ⟨p3,_,rfl,t46 _ _ b3,by decide,fun b z=>by rw [List.mem_singleton.mp z];exact rnil⟩
         . exact ⟨p4,[row],rfl,t56 _ _ b4,Nat.le_succ 1,fun b z=>by rw [List.mem_singleton.mp z];exact hrw⟩
         . exact ⟨p5,_,rfl,t6 _ _ b5,by decide,fun b z=>by
             rcases List.mem_cons.mp z with rfl|z
             . exact rnil
             . rw [List.mem_singleton.mp z];exact rx⟩
       obtain ⟨lb,bs,hlb,elb,bl2,hbs⟩:=hb;refine ixL b6 hlb (k3 _ _ ?_);walk_at "rd";refine ⟨pk,row,lb,bs,rfl,hpk,hrw,elb,bl2,hbs,fun H9 s9=>⟨_,rfl,?_⟩⟩;rw [if_neg (by decide)];exact hN2 _ _ ⟨s6.trans (s7.trans (s8.trans (t06.trans s9))),_,_,_,_,rfl⟩
     . rintro B2 σ H6 hB2 ⟨s6,w2,w3,w4,w5,rfl⟩;exact hB2 _ _ (hN _ _ ⟨s6,_,_,_,_,_,rfl⟩)
   . rintro BB σ H5 hBB ⟨s5,v1,v2,v3,v4,v5,rfl⟩;refine hBB _ _ (h1 _ _ ?_);walk_at "rd";exact k _
end
theorem FN:bG CX0:=fun _ _ _ _ _ h=>h
theorem all_mk {l:PySem.W.OpenLaw} {w:World} {K:PySem.W.Frag} {h:Heap} {mg:Str->Option Value} {fa:Addr} {aN:Addr} {dG:Addr} {c5:Addr} {bZ:Addr} {c6:Addr} {bQ:Addr} {gJ:Addr} {xc_TollError:Value} {xd_TollError:Option Addr} {xk_TollError:ClassData} {xs_TollError:Array (Option Value)} {xc_BadWeb:Value} {xd_BadWeb:Option Addr} {xk_BadWeb:ClassData} {xs_BadWeb:Array (Option Value)} {xc_NoPlace:Value} {xd_NoPlace:Option Addr} {xk_NoPlace:ClassData} {xs_NoPlace:Array (Option Value)} {xc_BadLaying:Value} {xd_BadLaying:Option Addr} {xk_BadLaying:ClassData} {xs_BadLaying:Array (Option Value)} {xc_BadStep:Value} {xd_BadStep:Option Addr} {xk_BadStep:ClassData} {xs_BadStep:Array (Option Value)} {xc_BadText:Value} {xd_BadText:Option Addr} {xk_BadText:ClassData} {xs_BadText:Array (Option Value)} {qn_BadText qq_BadText:Str} {qN_BadText:Addr} {qb_BadText qm_BadText:List Value} {qh_BadText:Bool} {qs_BadText:List Str} {qu_BadText:List Value} {qa_BadText:Bool} {qc_BadText:Option Bool} {qd_BadText:Option Addr} {q0_BadText q1_BadText q2_BadText q3_BadText q5_BadText:Option Value} {cB:Addr} {od_check_counts qZ:Option Addr} {qS:Array (Option Value)} {oc_check_counts sw rZ rP kK rA:Value} {ej:Addr} {od_is_place xv:Option Addr} {xD:Array (Option Value)} {oc_is_place wX wZ xG pM wW:Value} {dc:Addr} {od_check_ends vf:Option Addr} {u7:Array (Option Value)} {oc_check_ends u8 vy vc nJ vq:Value} {df:Addr} {od_other_ends uZ:Option Addr} {u4:Array (Option Value)} {oc_other_ends vx vp vr nM vt:Value} {cw:Addr} {od_check_joined re:Option Addr} {rH:Array (Option Value)} {oc_check_joined su sE sy kP qT:Value} {cU:Addr} {od_check_tolls sO:Option Addr} {tQ:Array (Option Value)} {oc_check_tolls tm tV tP lY tR:Value} {f_Web___init__:Addr} {od_Web___init__ rq:Option Addr} {qY:Array (Option Value)} {oc_Web___init__ sj rC rg kO rE:Value} {cA:Addr} {od_law_odd_word rM:Option Addr} {si:Array (Option Value)} {oc_law_odd_word rB sk rj kY rQ:Value} {cS:Addr} {od_law_changed sX:Option Addr} {t8:Array (Option Value)} {oc_law_changed tW sP sV lW tf:Value} {f_BadText___init__:Addr} {od_BadText___init__ nS:Option Addr} {nZ:Array (Option Value)} {oc_BadText___init__ nY nV n9 gQ nX:Value} {bD:Addr} {od_check_end vI:Option Addr} {vT:Array (Option Value)} {oc_check_end wH vM wK oJ wv:Value} {dF:Addr} {od_is_number wJ:Option Addr} {vE:Array (Option Value)} {oc_is_number v7 wD wI oH vU:Value} {bL:Addr} {od_read_number tY:Option Addr} {tL:Array (Option Value)} {oc_read_number tK tZ sZ lG tj:Value} {bE:Addr} {od_read_numbers sC:Option Addr} {qR:Array (Option Value)} {oc_read_numbers sH sJ qV kM sI:Value} {bW:Addr} {od_read_words ve:Option Addr} {vi:Array (Option Value)} {oc_read_words vh vv va nO u5:Value} {bT:Addr} {od_read_steps vb:Option Addr} {vn:Array (Option Value)} {oc_read_steps vj vo uW nQ u6:Value} {ek:Addr} {od_read_row xA:Option Addr} {xf:Array (Option Value)} {oc_read_row xB xr xp pQ xw:Value} {eh:Addr} {od_read_web xh:Option Addr} {xk:Array (Option Value)} {oc_read_web xc xn xi pZ xy:Value} {ff:Addr} {od_law_bad zt:Option Addr} {yS:Array (Option Value)} {oc_law_bad yM yt zd sN yp:Value} {bn:Addr} {od_law_number_in qy:Option Addr} {qp:Array (Option Value)} {oc_law_number_in qg qr qh j9 qb:Value} {bP:Addr} {od_law_numbers_due oz:Option Addr} {ph:Array (Option Value)} {oc_law_numbers_due oW oC oy iM o9:Value} {b8:Addr} {od_law_steps_due qG:Option Addr} {qA:Array (Option Value)} {oc_law_steps_due qP qE qJ jW qt:Value} {dI:Addr} {od_law_right vS:Option Addr} {v0:Array (Option Value)} {oc_law_right wQ vL wS o7 vZ:Value} {fk:Addr} {od_law_row yr:Option Addr} {yn:Array (Option Value)} {oc_law_row yo zg y0 se yw:Value} {ze:Addr} {od_law zQ:Option Addr} {ED:Array (Option Value)} {oc_law zL A0 AF vO Aa:Value} {t_MOST_PLACES:Tok} {t_LEAST_TOLL:Tok} {t_MOST_TOLL:Tok} {t_FIGURES:Tok} {t_MOST_FIGURES:Tok} (X:K.In h) (G:h.Ns mainGlobals mg) (hfa:mg "law"=some (.ref fa))
   (j4:PySem.W.nsIn K mainGlobals "TollError"=some (some (.ref aN)))
   (oS:PySem.W.nsIn K mainGlobals "BadWeb"=some (some (.ref dG)))
   (mK:PySem.W.nsIn K mainGlobals "NoPlace"=some (some (.ref c5)))
   (j7:PySem.W.nsIn K mainGlobals "BadLaying"=some (some (.ref bZ)))
   (m8:PySem.W.nsIn K mainGlobals "BadStep"=some (some (.ref c6)))
   (mX:PySem.W.nsIn K mainGlobals "BadText"=some (some (.ref bQ)))
   (wP:PySem.W.nsIn K mainGlobals "Web"=some (some (.ref gJ)))
   (j6:K.lookup aN=some ⟨xc_TollError,xd_TollError,.cls xk_TollError,xs_TollError⟩)
   (ki:xk_TollError.mro=.ref aN::bmV)
   (kH:PySem.W.typeIn K (.ref aN)=some (.type "type"))
   (kC:PySem.W.findIn K (.ref aN) "__getattribute__"=some (some (.builtin "BaseException.__getattribute__")))
   (j5:PySem.W.findIn K (.ref aN) "__getattr__"=some none)
   (jV:PySem.W.findIn K (.ref aN) "__class__"=some (some (.builtin "object.__class__")))
   (kb:PySem.W.hasDictIn K aN=true)
   (oU:K.lookup dG=some ⟨xc_BadWeb,xd_BadWeb,.cls xk_BadWeb,xs_BadWeb⟩)
   (oq:xk_BadWeb.mro=.ref dG::.ref aN::bmV)
   (oF:PySem.W.typeIn K (.ref dG)=some (.type "type"))
   (o6:PySem.W.findIn K (.ref dG) "__getattribute__"=some (some (.builtin "BaseException.__getattribute__")))
   (ou:PySem.W.findIn K (.ref dG) "__getattr__"=some none)
   (oQ:PySem.W.findIn K (.ref dG) "__class__"=some (some (.builtin "object.__class__")))
   (oA:PySem.W.hasDictIn K dG=true)
   (nB:K.lookup c5=some ⟨xc_NoPlace,xd_NoPlace,.cls xk_NoPlace,xs_NoPlace⟩)
   (mq:xk_NoPlace.mro=.ref c5::.ref aN::bmV)
   (md:PySem.W.typeIn K (.ref c5)=some (.type "type"))
   (mx:PySem.W.findIn K (.ref c5) "__getattribute__"=some (some (.builtin "BaseException.__getattribute__")))
   (ny:PySem.W.findIn K (.ref c5) "__getattr__"=some none)
   (mC:PySem.W.findIn K (.ref c5) "__class__"=some (some (.builtin "object.__class__")))
   (l7:PySem.W.hasDictIn K c5=true)
   (ko:K.lookup bZ=some ⟨xc_BadLaying,xd_BadLaying,.cls xk_BadLaying,xs_BadLaying⟩)
   (kj:xk_BadLaying.mro=.ref bZ::.ref aN::bmV)
   (jQ:PySem.W.typeIn K (.ref bZ)=some (.type "type"))
   (jY:PySem.W.findIn K (.ref bZ) "__getattribute__"=some (some (.builtin "BaseException.__getattribute__")))
   (jM:PySem.W.findIn K (.ref bZ) "__getattr__"=some none)
   (kE:PySem.W.findIn K (.ref bZ) "__class__"=some (some (.builtin "object.__class__")))
   (j3:PySem.W.hasDictIn K bZ=true)
   (ma:K.lookup c6=some ⟨xc_BadStep,xd_BadStep,.cls xk_BadStep,xs_BadStep⟩)
   (nu:xk_BadStep.mro=.ref c6::.ref aN::bmV)
   (mT:PySem.W.typeIn K (.ref c6)=some (.type "type"))
   (mR:PySem.W.findIn K (.ref c6) "__getattribute__"=some (some (.builtin "BaseException.__getattribute__")))
   (l8:PySem.W.findIn K (.ref c6) "__getattr__"=some none)
   (nh:PySem.W.findIn K (.ref c6) "__class__"=some (some (.builtin "object.__class__")))
   (mi:PySem.W.hasDictIn K c6=true)
   (gm:K.lookup bQ=some ⟨xc_BadText,xd_BadText,.cls xk_BadText,xs_BadText⟩)
   (jB:xk_BadText.mro=.ref bQ::.ref aN::bmV)
   (l9:PySem.W.typeIn K (.ref bQ)=some (.type "type"))
   (mQ:PySem.W.findIn K (.ref bQ) "__getattribute__"=some (some (.builtin "BaseException.__getattribute__")))
   (mV:PySem.W.findIn K (.ref bQ) "__getattr__"=some none)
   (nk:PySem.W.findIn K (.ref bQ) "__class__"=some (some (.builtin "object.__class__")))
   (jC:PySem.W.hasDictIn K bQ=true)
   (mO:(⟨xc_BadText,xd_BadText,.cls xk_BadText,xs_BadText⟩:Obj)=excClassObj qn_BadText qq_BadText bQ qN_BadText qb_BadText qm_BadText qh_BadText qs_BadText qu_BadText qa_BadText qc_BadText qd_BadText q0_BadText q1_BadText q2_BadText q3_BadText q5_BadText "ValueError.__new__")
   (mJ:PySem.W.nsOkIn K qN_BadText=true)
   (mj:PySem.W.nsIn K qN_BadText "__init__"=some (some (.ref f_BadText___init__)))
   (mm:PySem.W.tailIn K bmV qm_BadText=true)
   (jZ:PySem.W.specialIn K (.ref aN) "__getattribute__"=some (some (.builtin "type.__getattribute__")))
   (km:PySem.W.readsIn K aN (.type "type")=true)
   (kG:PySem.W.findCls K (.ref aN) (.type "type") "__init__"=some (.val (.builtin "ValueError.__init__")))
   (mW:PySem.W.findIn K (.ref bQ) "__setattr__"=some (some (.builtin "object.__setattr__")))
   (jz:PySem.W.findIn K (.ref bQ) "at"=some none)
   (xgs:PySem.W.specialIn K (.builtin "object.__class__") "__get__"=some (some (.builtin "getset_descriptor.__get__")))
   (xtk:PySem.W.takesIn K (.builtin "object.__class__")=some true)
   (xnd:[aN,dG,c5,bZ,c6,bQ].Nodup)
   (iw:PySem.W.nsIn K mainGlobals "check_counts"=some (some (.ref cB)))
   (iA:K.lookup cB=some ⟨oc_check_counts,od_check_counts,.func (PySem.W.fnOf "check_counts" "check_counts" (aL aR) (aD aR) (aa aR) .none sw rZ rP qZ kK rA),qS⟩)
   (iG:PySem.W.codeIn K kK "check_counts"=true)
   (iH:PySem.W.keepIn K (.ref cB)=true)
   (mf:PySem.W.nsIn K mainGlobals "is_place"=some (some (.ref ej)))
   (mL:K.lookup ej=some ⟨oc_is_place,od_is_place,.func (PySem.W.fnOf "is_place" "is_place" (aL cD) (aD cD) (aa cD) .none wX wZ xG xv pM wW),xD⟩)
   (ml:PySem.W.codeIn K pM "is_place"=true)
   (mZ:PySem.W.keepIn K (.ref ej)=true)
   (jR:PySem.W.nsIn K mainGlobals "check_ends"=some (some (.ref dc)))
   (kr:K.lookup dc=some ⟨oc_check_ends,od_check_ends,.func (PySem.W.fnOf "check_ends" "check_ends" (aL bu) (aD bu) (aa bu) .none u8 vy vc vf nJ vq),u7⟩)
   (kz:PySem.W.codeIn K nJ "check_ends"=true)
   (jT:PySem.W.keepIn K (.ref dc)=true)
   (j2:PySem.W.nsIn K mainGlobals "other_ends"=some (some (.ref df)))
   (j1:K.lookup df=some ⟨oc_other_ends,od_other_ends,.func (PySem.W.fnOf "other_ends" "other_ends" (aL bx) (aD bx) (aa bx) .none vx vp vr uZ nM vt),u4⟩)
   (ku:PySem.W.codeIn K nM "other_ends"=true)
   (jU:PySem.W.keepIn K (.ref df)=true)
   (iy:PySem.W.nsIn K mainGlobals "check_joined"=some (some (.ref cw)))
   (hZ:K.lookup cw=some ⟨oc_check_joined,od_check_joined,.func (PySem.W.fnOf "check_joined" "check_joined" (aL az) (aD az) (aa az) .none su sE sy re kP qT),rH⟩)
   (ip:PySem.W.codeIn K kP "check_joined"=true)
   (gW:PySem.W.keepIn K (.ref cw)=true)
   (ji:PySem.W.nsIn K mainGlobals "check_tolls"=some (some (.ref cU)))
   (jj:K.lookup cU=some ⟨oc_check_tolls,od_check_tolls,.func (PySem.W.fnOf "check_tolls" "check_tolls" (aL bd) (aD bd) (aa bd) .none tm tV tP sO lY tR),tQ⟩)
   (jo:PySem.W.codeIn K lY "check_tolls"=true)
   (jp:PySem.W.keepIn K (.ref cU)=true)
   (ix:PySem.W.findIn K (.ref gJ) "__init__"=some (some (.ref f_Web___init__)))
   (iu:PySem.W.isFn K (.ref f_Web___init__)=true)
   (ie:K.lookup f_Web___init__=some ⟨oc_Web___init__,od_Web___init__,.func (PySem.W.fnOf "__init__" "Web.__init__" (aL ay) (aD ay) (aa ay) .none sj rC rg rq kO rE),qY⟩)
   (g4:PySem.W.codeIn K kO "Web.__init__"=true)
   (g9:PySem.W.keepIn K (.ref f_Web___init__)=true)
   (h8:PySem.W.nsIn K mainGlobals "_law_odd_word"=some (some (.ref cA)))
   (ic:K.lookup cA=some ⟨oc_law_odd_word,od_law_odd_word,.func (PySem.W.fnOf "_law_odd_word" "_law_odd_word" (aL aG) (aD aG) (aa aG) .none rB sk rj rM kY rQ),si⟩)
   (gY:PySem.W.codeIn K kY "_law_odd_word"=true)
   (hJ:PySem.W.keepIn K (.ref cA)=true)
   (jh:PySem.W.nsIn K mainGlobals "_law_changed"=some (some (.ref cS)))
   (jr:K.lookup cS=some ⟨oc_law_changed,od_law_changed,.func (PySem.W.fnOf "_law_changed" "_law_changed" (aL aO) (aD aO) (aa aO) .none tW sP sV sX lW tf),t8⟩)
   (je:PySem.W.codeIn K lW "_law_changed"=true)
   (jt:PySem.W.keepIn K (.ref cS)=true)
   (iV:PySem.W.findIn K (.ref bQ) "__init__"=some (some (.ref f_BadText___init__)))
   (e8:PySem.W.isFn K (.ref f_BadText___init__)=true)
   (fj:K.lookup f_BadText___init__=some ⟨oc_BadText___init__,od_BadText___init__,.func (PySem.W.fnOf "__init__" "BadText.__init__" (aL aA) (aD aA) (aa aA) .none nY nV n9 nS gQ nX),nZ⟩)
   (e7:PySem.W.codeIn K gQ "BadText.__init__"=true)
   (fe:PySem.W.keepIn K (.ref f_BadText___init__)=true)
   (lz:PySem.W.nsIn K mainGlobals "check_end"=some (some (.ref bD)))
   (lx:K.lookup bD=some ⟨oc_check_end,od_check_end,.func (PySem.W.fnOf "check_end" "check_end" (aL bo) (aD bo) (aa bo) .none wH vM wK vI oJ wv),vT⟩)
   (lA:PySem.W.codeIn K oJ "check_end"=true)
   (lv:PySem.W.keepIn K (.ref bD)=true)
   (lp:PySem.W.nsIn K mainGlobals "is_number"=some (some (.ref dF)))
   (lj:K.lookup dF=some ⟨oc_is_number,od_is_number,.func (PySem.W.fnOf "is_number" "is_number" (aL bM) (aD bM) (aa bM) .none v7 wD wI wJ oH vU),vE⟩)
   (ll:PySem.W.codeIn K oH "is_number"=true)
   (k8:PySem.W.keepIn K (.ref dF)=true)
   (jg:PySem.W.nsIn K mainGlobals "read_number"=some (some (.ref bL)))
   (jq:K.lookup bL=some ⟨oc_read_number,od_read_number,.func (PySem.W.fnOf "read_number" "read_number" (aL aV) (aD aV) (aa aV) .none tK tZ sZ tY lG tj),tL⟩)
   (jc:PySem.W.codeIn K lG "read_number"=true)
   (jd:PySem.W.keepIn K (.ref bL)=true)
   (gZ:PySem.W.nsIn K mainGlobals "read_numbers"=some (some (.ref bE)))
   (iB:K.lookup bE=some ⟨oc_read_numbers,od_read_numbers,.func (PySem.W.fnOf "read_numbers" "read_numbers" (aL aQ) (aD aQ) (aa aQ) .none sH sJ qV sC kM sI),qR⟩)
   (iz:PySem.W.codeIn K kM "read_numbers"=true)
   (g8:PySem.W.keepIn K (.ref bE)=true)
   (kF:PySem.W.nsIn K mainGlobals "read_words"=some (some (.ref bW)))
   (kg:K.lookup bW=some ⟨oc_read_words,od_read_words,.func (PySem.W.fnOf "read_words" "read_words" (aL aW) (aD aW) (aa aW) .none vh vv va ve nO u5),vi⟩)
   (jN:PySem.W.codeIn K nO "read_words"=true)
   (kD:PySem.W.keepIn K (.ref bW)=true)
   (kc:PySem.W.nsIn K mainGlobals "read_steps"=some (some (.ref bT)))
   (j8:K.lookup bT=some ⟨oc_read_steps,od_read_steps,.func (PySem.W.fnOf "read_steps" "read_steps" (aL bi) (aD bi) (aa bi) .none vj vo uW vb nQ u6),vn⟩)
   (kd:PySem.W.codeIn K nQ "read_steps"=true)
   (jP:PySem.W.keepIn K (.ref bT)=true)
   (mS:PySem.W.nsIn K mainGlobals "read_row"=some (some (.ref ek)))
   (nC:K.lookup ek=some ⟨oc_read_row,od_read_row,.func (PySem.W.fnOf "read_row" "read_row" (aL bh) (aD bh) (aa bh) .none xB xr xp xA pQ xw),xf⟩)
   (nj:PySem.W.codeIn K pQ "read_row"=true)
   (mB:PySem.W.keepIn K (.ref ek)=true)
   (m6:PySem.W.nsIn K mainGlobals "read_web"=some (some (.ref eh)))
   (mD:K.lookup eh=some ⟨oc_read_web,od_read_web,.func (PySem.W.fnOf "read_web" "read_web" (aL aY) (aD aY) (aa aY) .none xc xn xi xh pZ xy),xk⟩)
   (mI:PySem.W.codeIn K pZ "read_web"=true)
   (mH:PySem.W.keepIn K (.ref eh)=true)
   (oM:PySem.W.nsIn K mainGlobals "_law_bad"=some (some (.ref ff)))
   (oB:K.lookup ff=some ⟨oc_law_bad,od_law_bad,.func (PySem.W.fnOf "_law_bad" "_law_bad" (aL aE) (aD aE) (aa aE) .none yM yt zd zt sN yp),yS⟩)
   (og:PySem.W.codeIn K sN "_law_bad"=true)
   (oi:PySem.W.keepIn K (.ref ff)=true)
   (gv:PySem.W.nsIn K mainGlobals "_law_number_in"=some (some (.ref bn)))
   (gz:K.lookup bn=some ⟨oc_law_number_in,od_law_number_in,.func (PySem.W.fnOf "_law_number_in" "_law_number_in" (aL aM) (aD aM) (aa aM) .none qg qr qh qy j9 qb),qp⟩)
   (gH:PySem.W.codeIn K j9 "_law_number_in"=true)
   (gj:PySem.W.keepIn K (.ref bn)=true)
   (fH:PySem.W.nsIn K mainGlobals "_law_numbers_due"=some (some (.ref bP)))
   (fJ:K.lookup bP=some ⟨oc_law_numbers_due,od_law_numbers_due,.func (PySem.W.fnOf "_law_numbers_due" "_law_numbers_due" (aL a8) (aD a8) (aa a8) .none oW oC oy oz iM o9),ph⟩)
   (fF:PySem.W.codeIn K iM "_law_numbers_due"=true)
   (fE:PySem.W.keepIn K (.ref bP)=true)
   (gL:PySem.W.nsIn K mainGlobals "_law_steps_due"=some (some (.ref b8)))
   (gB:K.lookup b8=some ⟨oc_law_steps_due,od_law_steps_due,.func (PySem.W.fnOf "_law_steps_due" "_law_steps_due" (aL aB) (aD aB) (aa aB) .none qP qE qJ qG jW qt),qA⟩)
   (gG:PySem.W.codeIn K jW "_law_steps_due"=true)
   (gC:PySem.W.keepIn K (.ref b8)=true)
   (la:PySem.W.nsIn K mainGlobals "_law_right"=some (some (.ref dI)))
   (lB:K.lookup dI=some ⟨oc_law_right,od_law_right,.func (PySem.W.fnOf "_law_right" "_law_right" (aL aJ) (aD aJ) (aa aJ) .none wQ vL wS vS o7 vZ),v0⟩)
   (lu:PySem.W.codeIn K o7 "_law_right"=true)
   (lh:PySem.W.keepIn K (.ref dI)=true)
   (oj:PySem.W.nsIn K mainGlobals "_law_row"=some (some (.ref fk)))
   (oE:K.lookup fk=some ⟨oc_law_row,od_law_row,.func (PySem.W.fnOf "_law_row" "_law_row" (aL bg) (aD bg) (aa bg) .none yo zg y0 yr se yw),yn⟩)
   (oY:PySem.W.codeIn K se "_law_row"=true)
   (o8:PySem.W.keepIn K (.ref fk)=true)
   (vC:PySem.W.nsIn K mainGlobals "law"=some (some (.ref ze)))
   (yu:K.lookup ze=some ⟨oc_law,od_law,.func (PySem.W.fnOf "law" "law" (aL cP) (aD cP) (aa cP) .none zL A0 AF zQ vO Aa),ED⟩)
   (za:PySem.W.codeIn K vO "law"=true)
   (yR:PySem.W.keepIn K (.ref ze)=true)
   (wF:PySem.W.plainGet K gJ Str.empty=true)
   (wt:PySem.W.hasDictIn K gJ=true)
   (wb:PySem.W.plainOver K gJ=true)
   (wB:PySem.W.findIn K (.ref gJ) "__setattr__"=some (some (.builtin "object.__setattr__")))
   (wM:PySem.W.makesIn K gJ=true)
   (vJ:PySem.W.keepIn K (.ref gJ)=true)
   (n_many_Web:PySem.W.findIn K (.ref gJ) "many"=some none)
   (n_roads_Web:PySem.W.findIn K (.ref gJ) "roads"=some none)
   (z_range:PySem.W.nsIn K mainGlobals "range"=some none)
   (z_len:PySem.W.nsIn K mainGlobals "len"=some none)
   (z_isinstance:PySem.W.nsIn K mainGlobals "isinstance"=some none)
   (z_all:PySem.W.nsIn K mainGlobals "all"=some none)
   (z_int:PySem.W.nsIn K mainGlobals "int"=some none)
   (z_tuple:PySem.W.nsIn K mainGlobals "tuple"=some none)
   (z_list:PySem.W.nsIn K mainGlobals "list"=some none)
   (z_max:PySem.W.nsIn K mainGlobals "max"=some none)
   (z_str:PySem.W.nsIn K mainGlobals "str"=some none)
   (z_ValueError:PySem.W.nsIn K mainGlobals "ValueError"=some none)
   (v_MOST_PLACES:PySem.W.nsIn K mainGlobals "MOST_PLACES"=some (some (.int 24 t_MOST_PLACES)))
   (v_LEAST_TOLL:PySem.W.nsIn K mainGlobals "LEAST_TOLL"=some (some (.int 2 t_LEAST_TOLL)))
   (v_MOST_TOLL:PySem.W.nsIn K mainGlobals "MOST_TOLL"=some (some (.int 1000000 t_MOST_TOLL)))
   (v_FIGURES:PySem.W.nsIn K mainGlobals "FIGURES"=some (some (.str "0123456789" t_FIGURES)))
   (v_MOST_FIGURES:PySem.W.nsIn K mainGlobals "MOST_FIGURES"=some (some (.int 60 t_MOST_FIGURES))) :
   ∃ fd:FuncData,(∀ (s:Shared) (v:Value),BindsTo s fd ⟨[v],[]⟩ [("script",v)])/\∀ base:Heap,K.In base->base.Ns mainGlobals mg->FnOk l.prog w K mg base (CXe l.prog w) 9 fa fd ["script"] (vB K):=by
 have e:=hfa.symm.trans (PySem.W.mg_of X G vC);cases e
 let T:Txt K mg:=⟨aN,PySem.W.mg_of X G j4,dG,PySem.W.mg_of X G oS,c5,PySem.W.mg_of X G mK,bZ,PySem.W.mg_of X G j7,c6,PySem.W.mg_of X G m8,bQ,PySem.W.mg_of X G mX,gJ,PySem.W.mg_of X G wP,Du kH kC j5 jV xgs xtk kb j6 ki,lX oF o6 ou oQ xgs xtk oA oU oq,lX md mx ny mC xgs xtk l7 nB mq,lX jQ jY jM kE xgs xtk j3 ko kj,lX mT mR l8 nh xgs xtk mi ma nu,lX l9 mQ mV nk xgs xtk jC gm jB,⟨jZ,km,kG⟩,DN gm jB jC mW jz,jz,xnd,PySem.W.mg_none_of X G z_range,PySem.W.mg_none_of X G z_len,PySem.W.mg_none_of X G z_isinstance,PySem.W.mg_none_of X G z_all,PySem.W.mg_none_of X G z_int,PySem.W.mg_none_of X G z_tuple,PySem.W.mg_none_of X G z_list,PySem.W.mg_none_of X G z_max,PySem.W.mg_none_of X G z_str,PySem.W.mg_none_of X G z_ValueError,⟨_,PySem.W.mg_of X G v_MOST_PLACES⟩,⟨_,PySem.W.mg_of X G v_LEAST_TOLL⟩,⟨_,PySem.W.mg_of X G v_MOST_TOLL⟩,⟨_,PySem.W.mg_of X G v_FIGURES⟩,⟨_,PySem.W.mg_of X G v_MOST_FIGURES⟩,⟨wF,wt,wb,wB⟩,n_many_Web,n_roads_Web⟩
 have F_check_counts:=bw (st:=aR) iA iG iH;have b_check_counts:=F_check_counts.binds (ps:=["many","roads"]) fun _ _ _ _ _ _ us hl=>by obtain ⟨u0,u1,rfl⟩:=us2 hl;rfl
 have c9:Df K mg "check_counts" aR ["many","roads"] cB _:=⟨F_check_counts,PySem.W.mg_of X G iw,b_check_counts⟩;have F_is_place:=bw (st:=cD) mL ml mZ;have b_is_place:=F_is_place.binds (ps:=["many","number"]) fun _ _ _ _ _ _ us hl=>by obtain ⟨u0,u1,rfl⟩:=us2 hl;rfl
 have cX:Df K mg "is_place" cD ["many","number"] ej _:=⟨F_is_place,PySem.W.mg_of X G mf,b_is_place⟩;have F_check_ends:=bw (st:=bu) kr kz jT;have b_check_ends:=F_check_ends.binds (ps:=["many","road"]) fun _ _ _ _ _ _ us hl=>by obtain ⟨u0,u1,rfl⟩:=us2 hl;rfl
 have dU:Df K mg "check_ends" bu ["many","road"] dc _:=⟨F_check_ends,PySem.W.mg_of X G jR,b_check_ends⟩;have F_other_ends:=bw (st:=bx) j1 ku jU;have b_other_ends:=F_other_ends.binds (ps:=["roads","place"]) fun _ _ _ _ _ _ us hl=>by obtain ⟨u0,u1,rfl⟩:=us2 hl;rfl
 have dP:Df K mg "other_ends" bx ["roads","place"] df _:=⟨F_other_ends,PySem.W.mg_of X G j2,b_other_ends⟩;have F_check_joined:=bw (st:=az) hZ ip gW;have b_check_joined:=F_check_joined.binds (ps:=["many","roads"]) fun _ _ _ _ _ _ us hl=>by obtain ⟨u0,u1,rfl⟩:=us2 hl;rfl
 have c8:Df K mg "check_joined" az ["many","roads"] cw _:=⟨F_check_joined,PySem.W.mg_of X G iy,b_check_joined⟩;have F_check_tolls:=bw (st:=bd) jj jo jp;have b_check_tolls:=F_check_tolls.binds (ps:=["road"]) fun _ _ _ _ _ _ us hl=>by obtain ⟨u0,rfl⟩:=us1 hl;rfl
 have dw:Df K mg "check_tolls" bd ["road"] cU _:=⟨F_check_tolls,PySem.W.mg_of X G ji,b_check_tolls⟩;have F_Web___init__:=bw (st:=ay) ie g4 g9;have b_Web:=F_Web___init__.binds (ps:=["self","many","roads"]) fun _ _ _ _ _ _ us hl=>by obtain ⟨u0,u1,u2,rfl⟩:=us3 hl;rfl
 have F_law_odd_word:=bw (st:=aG) ic gY hJ;have b_law_odd_word:=F_law_odd_word.binds (ps:=["cell","word"]) fun _ _ _ _ _ _ us hl=>by obtain ⟨u0,u1,rfl⟩:=us2 hl;rfl
 have da:Df K mg "_law_odd_word" aG ["cell","word"] cA _:=⟨F_law_odd_word,PySem.W.mg_of X G h8,b_law_odd_word⟩;have F_law_changed:=bw (st:=aO) jr je jt;have b_law_changed:=F_law_changed.binds (ps:=["words","cell"]) fun _ _ _ _ _ _ us hl=>by obtain ⟨u0,u1,rfl⟩:=us2 hl;rfl
 have dq:Df K mg "_law_changed" aO ["words","cell"] cS _:=⟨F_law_changed,PySem.W.mg_of X G jh,b_law_changed⟩;have F_BadText___init__:=bw (st:=aA) fj e7 fe;have b_BadText:=F_BadText___init__.binds (ps:=["self","at"]) fun _ _ _ _ _ _ us hl=>by obtain ⟨u0,u1,rfl⟩:=us2 hl;rfl
 have F_check_end:=bw (st:=bo) lx lA lv;have b_check_end:=F_check_end.binds (ps:=["rows","last"]) fun _ _ _ _ _ _ us hl=>by obtain ⟨u0,u1,rfl⟩:=us2 hl;rfl
 have bB:Df K mg "check_end" bo ["rows","last"] bD _:=⟨F_check_end,PySem.W.mg_of X G lz,b_check_end⟩;have F_is_number:=bw (st:=bM) lj ll k8;have b_is_number:=F_is_number.binds (ps:=["word"]) fun _ _ _ _ _ _ us hl=>by obtain ⟨u0,rfl⟩:=us1 hl;rfl
 have eD:Df K mg "is_number" bM ["word"] dF _:=⟨F_is_number,PySem.W.mg_of X G lp,b_is_number⟩;have F_read_number:=bw (st:=aV) jq jc jd;have b_read_number:=F_read_number.binds (ps:=["word","at"]) fun _ _ _ _ _ _ us hl=>by obtain ⟨u0,u1,rfl⟩:=us2 hl;rfl
 have br:Df K mg "read_number" aV ["word","at"] bL _:=⟨F_read_number,PySem.W.mg_of X G jg,b_read_number⟩;have F_read_numbers:=bw (st:=aQ) iB iz g8;have b_read_numbers:=F_read_numbers.binds (ps:=["text"]) fun _ _ _ _ _ _ us hl=>by obtain ⟨u0,rfl⟩:=us1 hl;rfl
 have bj:Df K mg "read_numbers" aQ ["text"] bE _:=⟨F_read_numbers,PySem.W.mg_of X G gZ,b_read_numbers⟩;have F_read_words:=bw (st:=aW) kg jN kD;have b_read_words:=F_read_words.binds (ps:=["words","many","at"]) fun _ _ _ _ _ _ us hl=>by obtain ⟨u0,u1,u2,rfl⟩:=us3 hl;rfl
 have cH:Df K mg "read_words" aW ["words","many","at"] bW _:=⟨F_read_words,PySem.W.mg_of X G kF,b_read_words⟩;have F_read_steps:=bw (st:=bi) j8 kd jP;have b_read_steps:=F_read_steps.binds (ps:=["text"]) fun _ _ _ _ _ _ us hl=>by obtain ⟨u0,rfl⟩:=us1 hl;rfl
 have bK:Df K mg "read_steps" bi ["text"] bT _:=⟨F_read_steps,PySem.W.mg_of X G kc,b_read_steps⟩;have F_read_row:=bw (st:=bh) nC nj mB;have b_read_row:=F_read_row.binds (ps:=["rows","at","head","many"]) fun _ _ _ _ _ _ us hl=>by obtain ⟨u0,u1,u2,u3,rfl⟩:=us4 hl;rfl
 have m7:Df K mg "read_row" bh ["rows","at","head","many"] ek _:=⟨F_read_row,PySem.W.mg_of X G mS,b_read_row⟩;have F_read_web:=bw (st:=aY) mD mI mH;have b_read_web:=F_read_web.binds (ps:=["text"]) fun _ _ _ _ _ _ us hl=>by obtain ⟨u0,rfl⟩:=us1 hl;rfl
 have fq:Df K mg "read_web" aY ["text"] eh _:=⟨F_read_web,PySem.W.mg_of X G m6,b_read_web⟩;have F_law_bad:=bw (st:=aE) oB og oi;have b_law_bad:=F_law_bad.binds (ps:=["pick","text"]) fun _ _ _ _ _ _ us hl=>by obtain ⟨u0,u1,rfl⟩:=us2 hl;rfl
 have gf:Df K mg "_law_bad" aE ["pick","text"] ff _:=⟨F_law_bad,PySem.W.mg_of X G oM,b_law_bad⟩;have F_law_number_in:=bw (st:=aM) gz gH gj;have b_law_number_in:=F_law_number_in.binds (ps:=["word"]) fun _ _ _ _ _ _ us hl=>by obtain ⟨u0,rfl⟩:=us1 hl;rfl
 have be:Df K mg "_law_number_in" aM ["word"] bn _:=⟨F_law_number_in,PySem.W.mg_of X G gv,b_law_number_in⟩;have F_law_numbers_due:=bw (st:=a8) fJ fF fE;have b_law_numbers_due:=F_law_numbers_due.binds (ps:=["row"]) fun _ _ _ _ _ _ us hl=>by obtain ⟨u0,rfl⟩:=us1 hl;rfl
 have cf:Df K mg "_law_numbers_due" a8 ["row"] bP _:=⟨F_law_numbers_due,PySem.W.mg_of X G fH,b_law_numbers_due⟩;have F_law_steps_due:=bw (st:=aB) gB gG gC;have b_law_steps_due:=F_law_steps_due.binds (ps:=["row"]) fun _ _ _ _ _ _ us hl=>by obtain ⟨u0,rfl⟩:=us1 hl;rfl
 have cN:Df K mg "_law_steps_due" aB ["row"] b8 _:=⟨F_law_steps_due,PySem.W.mg_of X G gL,b_law_steps_due⟩;have F_law_right:=bw (st:=aJ) lB lu lh;have b_law_right:=F_law_right.binds (ps:=["pick","row","behind"]) fun _ _ _ _ _ _ us hl=>by obtain ⟨u0,u1,u2,rfl⟩:=us3 hl;rfl
 have eE:Df K mg "_law_right" aJ ["pick","row","behind"] dI _:=⟨F_law_right,PySem.W.mg_of X G la,b_law_right⟩;have F_law_row:=bw (st:=bg) oE oY o8;have b_law_row:=F_law_row.binds (ps:=["pick","cell"]) fun _ _ _ _ _ _ us hl=>by obtain ⟨u0,u1,rfl⟩:=us2 hl;rfl
 have f9:Df K mg "_law_row" bg ["pick","cell"] fk _:=⟨F_law_row,PySem.W.mg_of X G oj,b_law_row⟩;have F_law:=bw (st:=cP) yu za yR;have b_law:=F_law.binds (ps:=["script"]) fun _ _ _ _ _ _ us hl=>by obtain ⟨u0,rfl⟩:=us1 hl;rfl
 have Fp:Df K mg "law" cP ["script"] fa _:=⟨F_law,PySem.W.mg_of X G vC,b_law⟩;refine ⟨PySem.W.fnOf "law" "law" (aL cP) (aD cP) (aa cP) .none zL A0 AF zQ vO Aa,fun s v=>.of_eq rfl,fun base _ _=>?_⟩;have CY:Mk K T.Web f_Web___init__:=⟨wM,ix,iu,vJ⟩;have bR:jA K T.BadText f_BadText___init__:=CL _ _ _ _ _ _ _ _ _ _ _ _ _ _ _ _ gm mO mJ mj mm e8;have G_check_counts:=q8 (P:=l.prog) (w:=w) (base:=base) T bp c9;have G_is_place:=xq (P:=l.prog) (w:=w) (base:=base) T bp cX;have G_check_ends:=uY (P:=l.prog) (w:=w) (base:=base) T bp dU cX G_is_place;have G_other_ends:=vw (P:=l.prog) (w:=w) (base:=base) T bp dP;have G_check_joined:=sv (P:=l.prog) (w:=w) (base:=base) T bp c8 dP G_other_ends;have G_check_tolls:=t7 (P:=l.prog) (w:=w) (base:=base) T bp dw;have G_Web_init:=rm (P:=l.prog) (w:=w) (base:=base) T bp F_Web___init__ c9 G_check_counts dU G_check_ends c8 G_check_joined dw G_check_tolls;have G_law_odd_word:=rL (P:=l.prog) (w:=w) (base:=base) T bp da;have G_law_changed:=tI (P:=l.prog) (w:=w) (base:=base) T bp dq da G_law_odd_word;have G_BadText_init:=n8 (P:=l.prog) (w:=w) (base:=base) T bp F_BadText___init__;have G_check_end:=wy (P:=l.prog) (w:=w) (base:=base) T bp bB F_BadText___init__ b_BadText bR G_BadText_init;have G_is_number:=wp (P:=l.prog) (w:=w) (base:=base) T bp eD;have G_read_number:=tz (P:=l.prog) (w:=w) (base:=base) T bp br F_BadText___init__ b_BadText bR G_BadText_init eD G_is_number;have G_read_numbers:=sh (P:=l.prog) (w:=w) (base:=base) T bp bj bB G_check_end br G_read_number;have G_read_words:=vd (P:=l.prog) (w:=w) (base:=base) T bp cH F_BadText___init__ b_BadText bR G_BadText_init br G_read_number;have G_read_steps:=u9 (P:=l.prog) (w:=w) (base:=base) T bp bK bB G_check_end cH G_read_words;have G_read_row:=xb (P:=l.prog) (w:=w) (base:=base) T bp m7 F_BadText___init__ b_BadText bR G_BadText_init cH G_read_words;have G_read_web:=xu (P:=l.prog) (w:=w) (base:=base) T bp fq F_Web___init__ b_Web CY G_Web_init bB G_check_end m7 G_read_row;have G_law_bad:=yP (P:=l.prog) (w:=w) (base:=base) T bp gf bj G_read_numbers bK G_read_steps fq G_read_web;have G_law_number_in:=qD (P:=l.prog) (w:=w) (base:=base) T bp be;have G_law_numbers_due:=om (P:=l.prog) (w:=w) (base:=base) T bp cf be G_law_number_in;have G_law_steps_due:=qH (P:=l.prog) (w:=w) (base:=base) T bp cN be G_law_number_in;have G_law_right:=wR (P:=l.prog) (w:=w) (base:=base) T bp eE gf G_law_bad cf G_law_numbers_due cN G_law_steps_due bj G_read_numbers bK G_read_steps;have G_law_row:=zb (P:=l.prog) (w:=w) (base:=base) T bp f9;have G_law:=EH (P:=l.prog) (w:=w) (base:=base) T bp Fp dq G_law_changed eE G_law_right f9 G_law_row;exact G_law
theorem walk {l:PySem.W.OpenLaw} {q:Program} {loose:List Str} {XP:(Str->Option Value)->Heap->Prop} {YP:World->Heap->Prop} {d:DefRec} {K:Params->PySem.W.Frag} (hn:l.most=some 63) (hdf:d.params.defaults=[])
   (hY:∀ (w:World) (h:Heap),YP w h->(K w.params).In h)
   (F:∀ (w:World) (mg:Str->Option Value) (fa:Addr) (h:Heap),(K w.params).In h->h.Ns mainGlobals mg->mg d.name=some (.ref fa) ->
     ∃ fd:FuncData,(∀ (s:Shared) (u:Value),BindsTo s fd ⟨[u],[]⟩ [("script",u)])/\∀ base:Heap,(K w.params).In base->base.Ns mainGlobals mg->FnOk l.prog w (K w.params) mg base (CXe l.prog w) 9 fa fd ["script"] (vB (K w.params))) :
   PySem.W.WalkO q loose XP YP l.row.toRowW d [] (fun f vs=>PySem.call f vs) :=
 L2.walk_of (n:=63) (k:=9) (x:="script") (CX:=fun w=>(CXe l.prog w)) (sp:=fun w=>vB (K w.params)) hn (by decide) hdf ⟨rfl,by decide,by decide⟩ hY F (fun _ _ a ns hl _ hS=>⟨a,ns,rfl,hS,hl,fun _=>rfl⟩) fun _ _ _ _ _ z=>bp _ _ _ _ _ z
end Pk
open PySem PySem.W PyProof.Rows
set_option maxRecDepth 100000 in
set_option maxHeartbeats 0 in
theorem PySem.Challenge.cw_pebbletoll_k59_texts_refused_holds : PySem.Challenge.rw_pebbletoll_k59_texts_refused.Holds := by
 w_on;o_law
 refine PySem.W.holds_open (q:=Hd.qq) (loose:=[]) (Xt:=(fun s=>PySem.W.xlAt Hd.qq [] s && PySem.W.recOk (PySem.W.RowW.records (PySem.W.OpenRow.toRowW (PySem.Challenge.rw_pebbletoll_k59_texts_refused).row)) s)) (XP:=PySem.W.XL Hd.qq []) (Yf:=PySem.W.Hook.obs (PySem.W.kHook Hd.KK Hd.asK Hd.asK_eq)) (Ya:=PySem.W.Hook.val (PySem.W.kHook Hd.KK Hd.asK Hd.asK_eq)) (YP:=PySem.W.Hook.says (PySem.W.kHook Hd.KK Hd.asK Hd.asK_eq)) (N:=4740) Hd.left (PySem.W.Hook.of (PySem.W.kHook Hd.KK Hd.asK Hd.asK_eq)) (PySem.W.Hook.keeps (PySem.W.kHook Hd.KK Hd.asK Hd.asK_eq)) (fun s e=>PySem.W.xl_of s (Bool.and_eq_true_iff.mp e).1) PySem.W.XL.keeps (by rfl) (by rfl) (by rfl) (fun s e=>PySem.W.recFacts_of (Bool.and_eq_true_iff.mp e).2) (by rfl) (by assumption) (by decide +kernel) ⟨rfl,rfl,rfl,rfl,rfl,by decide +kernel⟩ ?hw ?hc
 (case hw=>w_witness2)
 k_fill
 refine Pk.walk (l:=PySem.Challenge.rw_pebbletoll_k59_texts_refused) rfl rfl (fun w h Y=>PySem.W.kIn_of Y) ?F
 case F =>
   intro w mg fa h KX G hmg;refine' Pk.all_mk KX G hmg ?j4 ?oS ?mK ?j7 ?m8 ?mX ?wP ?j6 ?ki ?kH ?kC ?j5 ?jV ?kb ?oU ?oq ?oF ?o6 ?ou ?oQ ?oA ?nB ?mq ?md ?mx ?ny ?mC ?l7 ?ko ?kj ?jQ ?jY ?jM ?kE ?j3 ?ma ?nu ?mT ?mR ?l8 ?nh ?mi ?gm ?jB ?l9 ?mQ ?mV ?nk ?jC ?mO ?mJ ?mj ?mm ?jZ ?km ?kG ?mW ?jz ?xgs ?xtk ?xnd ?iw ?iA ?iG ?iH ?mf ?mL ?ml ?mZ ?jR ?kr ?kz ?jT ?j2 ?j1 ?ku ?jU ?iy ?hZ ?ip ?gW ?ji ?jj ?jo ?jp ?ix ?iu ?ie ?g4 ?g9 ?h8 ?ic ?gY ?hJ ?jh ?jr ?je ?jt ?iV ?e8 ?fj ?e7 ?fe ?lz ?lx ?lA ?lv ?lp ?lj ?ll ?k8 ?jg ?jq ?jc ?jd ?gZ ?iB ?iz ?g8 ?kF ?kg ?jN ?kD ?kc ?j8 ?kd ?jP ?mS ?nC ?nj ?mB ?m6 ?mD ?mI ?mH ?oM ?oB ?og ?oi ?gv ?gz ?gH ?gj ?fH ?fJ ?fF ?fE ?gL ?gB ?gG ?gC ?la ?lB ?lu ?lh ?oj ?oE ?oY ?o8 ?vC ?yu ?za ?yR ?wF ?wt ?wb ?wB ?wM ?vJ ?n_many_Web ?n_roads_Web ?z_range ?z_len ?z_isinstance ?z_all ?z_int ?z_tuple ?z_list ?z_max ?z_str ?z_ValueError ?v_MOST_PLACES ?v_LEAST_TOLL ?v_MOST_TOLL ?v_FIGURES ?v_MOST_FIGURES
   (case j4=>k_is)
   (case oS=>k_is)
   (case mK=>k_is)
   (case j7=>k_is)
   (case m8=>k_is)
   (case mX=>k_is)
   (case wP=>k_is)
   (case j6=>k_is)
   (case ki=>rfl)
   (case kH=>k_is)
   (case kC=>k_is)
   (case j5=>k_is)
   (case jV=>k_is)
   (case kb=>k_is)
   (case oU=>k_is)
   (case oq=>rfl)
   (case oF=>k_is)
   (case o6=>k_is)
   (case ou=>k_is)
   (case oQ=>k_is)
   (case oA=>k_is)
   (case nB=>k_is)
   (case mq=>rfl)
   (case md=>k_is)
   (case mx=>k_is)
   (case ny=>k_is)
   (case mC=>k_is)
   (case l7=>k_is)
   (case ko=>k_is)
   (case kj=>rfl)
   (case jQ=>k_is)
   (case jY=>k_is)
   (case jM=>k_is)
   (case kE=>k_is)
   (case j3=>k_is)
   (case ma=>k_is)
   (case nu=>rfl)
   (case mT=>k_is)
   (case mR=>k_is)
   (case l8=>k_is)
   (case nh=>k_is)
   (case mi=>k_is)
   (case gm=>k_is)
   (case jB=>rfl)
   (case l9=>k_is)
   (case mQ=>k_is)
   (case mV=>k_is)
   (case nk=>k_is)
   (case jC=>k_is)
   (case mO=>rfl)
   (case mJ=>kernel_rfl)
   (case mj=>k_is)
   (case mm=>kernel_rfl)
   (case jZ=>k_is)
   (case km=>k_is)
   (case kG=>k_is)
   (case mW=>k_is)
   (case jz=>k_is)
   (case xgs=>k_is)
   (case xtk=>k_is)
   (case xnd=>decide)
   (case iw=>k_is)
   (case iA=>k_is)
   (case iG=>k_is)
   (case iH=>k_is)
   (case mf=>k_is)
   (case mL=>k_is)
   (case ml=>k_is)
   (case mZ=>k_is)
   (case jR=>k_is)
   (case kr=>k_is)
   (case kz=>k_is)
   (case jT=>k_is)
   (case j2=>k_is)
   (case j1=>k_is)
   (case ku=>k_is)
   (case jU=>k_is)
   (case iy=>k_is)
   (case hZ=>k_is)
   (case ip=>k_is)
   (case gW=>k_is)
   (case ji=>k_is)
   (case jj=>k_is)
   (case jo=>k_is)
   (case jp=>k_is)
   (case ix=>k_is)
   (case iu=>k_is)
   (case ie=>k_is)
   (case g4=>k_is)
   (case g9=>k_is)
   (case h8=>k_is)
   (case ic=>k_is)
   (case gY=>k_is)
   (case hJ=>k_is)
   (case jh=>k_is)
   (case jr=>k_is)
   (case je=>k_is)
   (case jt=>k_is)
   (case iV=>k_is)
   (case e8=>k_is)
   (case fj=>k_is)
   (case e7=>k_is)
   (case fe=>k_is)
   (case lz=>k_is)
   (case lx=>k_is)
   (case lA=>k_is)
   (case lv=>k_is)
   (case lp=>k_is)
   (case lj=>k_is)
   (case ll=>k_is)
   (case k8=>k_is)
   (case jg=>k_is)
   (case jq=>k_is)
   (case jc=>k_is)
   (case jd=>k_is)
   (case gZ=>k_is)
   (case iB=>k_is)
   (case iz=>k_is)
   (case g8=>k_is)
   (case kF=>k_is)
   (case kg=>k_is)
   (case jN=>k_is)
   (case kD=>k_is)
   (case kc=>k_is)
   (case j8=>k_is)
   (case kd=>k_is)
   (case jP=>k_is)
   (case mS=>k_is)
   (case nC=>k_is)
   (case nj=>k_is)
   (case mB=>k_is)
   (case m6=>k_is)
   (case mD=>k_is)
   (case mI=>k_is)
   (case mH=>k_is)
   (case oM=>k_is)
   (case oB=>k_is)
   (case og=>k_is)
   (case oi=>k_is)
   (case gv=>k_is)
   (case gz=>k_is)
   (case gH=>k_is)
   (case gj=>k_is)
   (case fH=>k_is)
   (case fJ=>k_is)
   (case fF=>k_is)
   (case fE=>k_is)
   (case gL=>k_is)
   (case gB=>k_is)
   (case gG=>k_is)
   (case gC=>k_is)
   (case la=>k_is)
   (case lB=>k_is)
   (case lu=>k_is)
   (case lh=>k_is)
   (case oj=>k_is)
   (case oE=>k_is)
   (case oY=>k_is)
   (case o8=>k_is)
   (case vC=>k_is)
   (case yu=>k_is)
   (case za=>k_is)
   (case yR=>k_is)
   (case wF=>k_is)
   (case wt=>k_is)
   (case wb=>k_is)
   (case wB=>k_is)
   (case wM=>k_is)
   (case vJ=>k_is)
   (case n_many_Web=>k_is)
   (case n_roads_Web=>k_is)
   (case z_range=>k_is)
   (case z_len=>k_is)
   (case z_isinstance=>k_is)
   (case z_all=>k_is)
   (case z_int=>k_is)
   (case z_tuple=>k_is)
   (case z_list=>k_is)
   (case z_max=>k_is)
   (case z_str=>k_is)
   (case z_ValueError=>k_is)
   (case v_MOST_PLACES=>k_is)
   (case v_LEAST_TOLL=>k_is)
   (case v_MOST_TOLL=>k_is)
   (case v_FIGURES=>k_is)
   (case v_MOST_FIGURES=>k_is)
#print axioms PySem.Challenge.cw_pebbletoll_k59_texts_refused_holds