"""Claims that a loop keeps: loopclaimsdesk.keeping.answers is what is called from outside."""
